"""The nodes of a tree, by their numbers: each is found by its opening bracket."""

from thinwood.brackets import closing, further_out, height, lowest, opening
from thinwood.errors import NoNode
from thinwood.rows import bit_at, one_place, ones_at


def node_count(tables):
    return tables[0] // 2


def check_node(tables, node):
    if node < 0 or node >= node_count(tables):
        raise NoNode("the tree has no such node")


def node_at(tables, look, at):
    if bit_at(tables, look, at) == 1:
        return ones_at(tables, look, at)
    return ones_at(tables, look, opening(tables, look, at))


def place_of(tables, look, node):
    check_node(tables, node)
    return one_place(tables, look, node)


def depth_of(tables, look, node):
    return height(tables, look, place_of(tables, look, node))


def elder_of(tables, look, node):
    return up_of(tables, look, node, 1)


def first_of(tables, look, node):
    behind = place_of(tables, look, node) + 1
    if bit_at(tables, look, behind) == 0:
        return None
    return node + 1


def younger_of(tables, look, node):
    behind = closing(tables, look, place_of(tables, look, node)) + 1
    # Behind the root's closing bracket there is none.
    if behind == tables[0] or bit_at(tables, look, behind) == 0:
        return None
    return node_at(tables, look, behind)


def older_of(tables, look, node):
    ahead = place_of(tables, look, node) - 1
    # Ahead of the root's opening bracket there is none.
    if ahead < 0 or bit_at(tables, look, ahead) == 1:
        return None
    return node_at(tables, look, ahead)


def beneath_of(tables, look, node):
    at = place_of(tables, look, node)
    return (closing(tables, look, at) - at) // 2


def up_of(tables, look, node, steps):
    at = further_out(tables, look, place_of(tables, look, node), steps)
    if at is None:
        return None
    return node_at(tables, look, at)


def is_over(tables, look, one, other):
    check_node(tables, other)
    # A node is followed by all that is beneath it.
    last = one + beneath_of(tables, look, one)
    return one <= other <= last


def common_of(tables, look, one, other):
    node = min(one, other)
    first = place_of(tables, look, node)
    last = place_of(tables, look, max(one, other))
    # Within the common node's brackets the height is nowhere less than one more than its depth, and it is just that
    # behind its own opening bracket and behind the closing one of each of its young.
    depth = lowest(tables, look, first, last + 1) - 1
    return up_of(tables, look, node, height(tables, look, first) - depth)
