"""Octets: whole numbers written as octets, the one of least weight first."""


def octets_of(number, many):
    octets = []
    rest = number
    for k in range(many):
        octets.append(rest % 256)
        rest = rest // 256
    return octets


def number_of(octets):
    number = 0
    for octet in reversed(octets):
        number = 256 * number + octet
    return number
