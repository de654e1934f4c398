"""Heaps: the least numbers of a list's stretches, each borne by a node over two lesser stretches."""

from thinwood.errors import NoPlace, TooMany

MOST_NUMBERS = 4096


def heap_of(numbers):
    if len(numbers) > MOST_NUMBERS:
        raise TooMany("a heap is made of at most 4,096 numbers")
    size = size_of(len(numbers))
    nodes = [None] * size + list(numbers) + [None] * (size - len(numbers))
    for node in range(size - 1, 0, -1):
        nodes[node] = lesser_of(nodes[2 * node], nodes[2 * node + 1])
    return nodes


def size_of(many):
    size = 1
    while size < many:
        size = 2 * size
    return size


def lesser_of(one, other):
    if one is None:
        return other
    if other is None:
        return one
    return min(one, other)


def least_of(many, look, start, stop):
    return min([look(node) for node in cover(many, start, stop)], default=None)


def first_at_most(many, look, start, goal):
    for node in cover(many, start, many):
        if look(node) <= goal:
            return place_beneath(size_of(many), look, node, goal, 0)
    return None


def last_at_most(many, look, stop, goal):
    for node in reversed(cover(many, 0, stop)):
        if look(node) <= goal:
            return place_beneath(size_of(many), look, node, goal, 1)
    return None


def place_beneath(size, look, node, goal, side):
    # The side that is tried first is 0 for the left one, which finds the first place, and 1 for the right one.
    found = node
    while found < size:
        found = 2 * found + side
        # A node bears the lesser number of the two beneath it, so where this one's is too great, the other one's isn't.
        if look(found) > goal:
            found = found + 1 - 2 * side
    return found - size


def check_stretch(many, start, stop):
    if not 0 <= start <= stop <= many:
        raise NoPlace("the list has no such stretch")


def cover(many, start, stop):
    check_stretch(many, start, stop)
    size = size_of(many)
    low = size + start
    high = size + stop
    lefts = []
    rights = []
    while low < high:
        # The node above an odd one covers places ahead of the stretch, too, so the odd one itself must do.
        if low % 2 == 1:
            lefts.append(low)
            low = low + 1
        # Likewise the last node, which is the one ahead of high, where the node above it reaches behind the stretch.
        if high % 2 == 1:
            high = high - 1
            rights.append(high)
        low = low // 2
        high = high // 2
    return lefts + list(reversed(rights))
