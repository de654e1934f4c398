"""Hands: each stands at a bracket of a tree and is moved from there."""

from thinwood.brackets import closing, opening
from thinwood.rows import bit_at
from thinwood.trees import elder_of, first_of, node_at, older_of, place_of, younger_of


class Hand:
    def __init__(self, tables, look):
        self.tables = tables
        self.look = look
        self.place = 0

    def node(self):
        return node_at(self.tables, self.look, self.place)

    def is_opening(self):
        return bit_at(self.tables, self.look, self.place) == 1

    def told(self):
        return (self.node(), self.is_opening())

    def step(self):
        self.place = (self.place + 1) % self.tables[0]
        return self.told()

    def step_back(self):
        self.place = (self.place - 1) % self.tables[0]
        return self.told()

    def turn(self):
        if self.is_opening():
            self.place = closing(self.tables, self.look, self.place)
        else:
            self.place = opening(self.tables, self.look, self.place)
        return self.told()

    def to_elder(self):
        return self.to_found(elder_of(self.tables, self.look, self.node()))

    def to_first(self):
        return self.to_found(first_of(self.tables, self.look, self.node()))

    def to_younger(self):
        return self.to_found(younger_of(self.tables, self.look, self.node()))

    def to_older(self):
        return self.to_found(older_of(self.tables, self.look, self.node()))

    def to_found(self, found):
        if found is None:
            return False
        return self.to_node(found)

    def to_node(self, node):
        self.place = place_of(self.tables, self.look, node)
        return True
