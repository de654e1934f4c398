"""The shape of a tree: the list of its nodes' depths, and the brackets that tell the same."""

from thinwood.brackets import check_brackets, kept_brackets
from thinwood.errors import NoTree, TooMany

MOST_NODES = 2048


def check_depths(depths):
    if len(depths) > MOST_NODES:
        raise TooMany("a tree has at most 2,048 nodes")
    if len(depths) == 0 or depths[0] != 0:
        raise NoTree("a tree begins with its root, whose depth is 0")
    for ahead, depth in zip(depths, depths[1:]):
        if not 1 <= depth <= ahead + 1:
            raise NoTree("a node's depth is from 1 to one more than the one ahead of it")


def brackets_of(depths):
    check_depths(depths)
    bits = []
    unclosed = 0
    for depth in depths:
        bits.extend([0] * (unclosed - depth))
        bits.append(1)
        unclosed = depth + 1
    return bits + [0] * unclosed


def depths_of(bits):
    check_brackets(bits)
    depths = []
    unclosed = 0
    for bit in bits:
        if bit == 1:
            depths.append(unclosed)
        unclosed = unclosed + 2 * bit - 1
    return depths


def kept_tree(depths):
    return kept_brackets(brackets_of(depths))
