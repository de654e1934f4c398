"""Walks: each tells a tree's nodes one by one, in an order of its own."""

from thinwood.brackets import closing
from thinwood.rows import nought_place, noughts_at
from thinwood.trees import check_node, node_at, node_count, place_of


def next_number(tables, node):
    check_node(tables, node)
    if node + 1 == node_count(tables):
        return None
    return node + 1


def closed_from(tables, look, at):
    ahead = noughts_at(tables, look, at)
    # There are as many closing brackets as nodes.
    if ahead == node_count(tables):
        return None
    return node_at(tables, look, nought_place(tables, look, ahead))


class Walk:
    def __init__(self, tables, look):
        self.tables = tables
        self.look = look

    def begin(self):
        return 0

    def behind(self, node):
        return next_number(self.tables, node)

    def listed(self):
        nodes = []
        node = self.begin()
        while node is not None:
            nodes.append(node)
            node = self.behind(node)
        return nodes


class Late(Walk):
    def begin(self):
        return closed_from(self.tables, self.look, 0)

    def behind(self, node):
        own = closing(self.tables, self.look, place_of(self.tables, self.look, node))
        return closed_from(self.tables, self.look, own + 1)


class Tips(Walk):
    def begin(self):
        return self.tip_from(0)

    def behind(self, node):
        following = next_number(self.tables, node)
        if following is None:
            return None
        return self.tip_from(following)

    def tip_from(self, node):
        # From an opening bracket on, the first closing one stands right behind an opening one: so it is a tip's.
        return closed_from(self.tables, self.look, place_of(self.tables, self.look, node))
