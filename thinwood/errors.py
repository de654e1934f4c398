"""The refusals, one class for each."""


class WoodError(ValueError):
    pass


class TooMany(WoodError):
    pass


class NoBit(WoodError):
    pass


class NoPlace(WoodError):
    pass


class NoNode(WoodError):
    pass


class NoTree(WoodError):
    pass


class NoSign(WoodError):
    pass


class NoWord(WoodError):
    pass


class Twice(WoodError):
    pass


class NoOctets(WoodError):
    pass
