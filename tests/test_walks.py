import inspect
import unittest

from tests.helper import Case, PlainTree, WatchedLook, all_trees, mixed_depths, sample_trees
from thinwood.blocks import look_of
from thinwood.errors import NoNode
from thinwood.shapes import kept_tree
from thinwood.walks import Late, Tips, Walk

COUNTS = (1, 2, 3, 15, 16, 17, 31, 32, 33, 48, 64, 65, 255, 256, 257, 1024, 2047, 2048)

WALKS = (Walk, Late, Tips)


def trees_of_each_kind():
    for depths in sample_trees(COUNTS):
        yield PlainTree(depths)


def plain_late(tree):
    """Each node behind all that is beneath it, young by young: the elders are kept waiting."""
    nodes = []
    waiting = []
    for node in range(tree.count):
        while waiting and tree.depths[waiting[-1]] >= tree.depths[node]:
            nodes.append(waiting.pop())
        waiting.append(node)
    return nodes + waiting[::-1]


def plain_tips(tree):
    return [node for node in range(tree.count) if not tree.young[node]]


def plain_lists(tree):
    return {Walk: list(range(tree.count)), Late: plain_late(tree), Tips: plain_tips(tree)}


def plain_next(tree, kind):
    """What comes behind each node of the tree."""
    if kind is Tips:
        # From the last node on, so that the first tip of a greater number is the one that was met last.
        behind = {}
        tip = None
        for node in reversed(range(tree.count)):
            behind[node] = tip
            tip = tip if tree.young[node] else node
        return behind
    nodes = plain_lists(tree)[kind]
    return dict(zip(nodes, nodes[1:] + [None], strict=True))


class Interface(Case):
    def test_names_and_arguments(self):
        for kind in WALKS:
            self.assertEqual(["tables", "look"], list(inspect.signature(kind).parameters))
            self.assertEqual(["self"], list(inspect.signature(kind.begin).parameters))
            self.assertEqual(["self", "node"], list(inspect.signature(kind.behind).parameters))
            self.assertEqual(["self"], list(inspect.signature(kind.listed).parameters))

    def test_which_stands_under_which(self):
        for kind in (Late, Tips):
            self.assertEqual((Walk,), kind.__bases__)
        self.assertFalse(issubclass(Late, Tips) or issubclass(Tips, Late))


class WalkCase(Case):
    def listed(self, walk, most):
        """The walk's list, once it is sure that the walk has no more nodes than that and so comes to an end."""
        node = walk.begin()
        steps = 0
        while node is not None:
            steps += 1
            if steps > most:
                self.fail(f"a walk went on from node {node!r} beyond {most} nodes")
            node = walk.behind(node)
        return walk.listed()


class Walks(WalkCase):
    def test_each_small_tree(self):
        for many in range(1, 8):
            for tree in map(PlainTree, all_trees(many)):
                for kind in WALKS:
                    self.hold_list(tree, kind)
                    self.hold_each(tree, kind, range(many))

    def test_as_lists(self):
        for tree in trees_of_each_kind():
            for kind in WALKS:
                self.hold_list(tree, kind)

    def hold_list(self, tree, kind):
        walk = kind(tree.tables, WatchedLook(tree.blocks))
        asked = plain_lists(tree)[kind]
        self.same(walk.begin(), asked[0], (kind, tree.bits))
        self.same(self.listed(walk, tree.count), asked, (kind, tree.bits))

    def test_behind_any_node(self):
        for tree in trees_of_each_kind():
            for kind in WALKS:
                self.hold_each(tree, kind, reversed(tree.picked(40)))

    def hold_each(self, tree, kind, nodes):
        walk = kind(tree.tables, WatchedLook(tree.blocks))
        behind = plain_next(tree, kind)
        for node in nodes:
            self.same(walk.behind(node), behind[node], (kind, tree.bits, node))

    def test_behind_the_last_node(self):
        for tree in trees_of_each_kind():
            look = WatchedLook(tree.blocks)
            last = tree.count - 1
            # The last node by its number has no young, so it is the last tip, too.
            for kind, node in ((Walk, last), (Tips, last), (Late, 0)):
                walk = kind(tree.tables, look)
                self.same(walk.behind(node), None)
                self.same(walk.behind(node), None)

    def test_tips_behind_a_node_that_is_no_tip(self):
        for many in (2, 16, 17, 33, 2048):
            chain = PlainTree(list(range(many)))
            walk = Tips(chain.tables, WatchedLook(chain.blocks))
            for node in (0, many // 3, many - 2):
                self.same(walk.behind(node), many - 1)
            self.same(walk.behind(many - 1), None)
            young = PlainTree([0] + [1] * (many - 1))
            walk = Tips(young.tables, WatchedLook(young.blocks))
            self.same(walk.behind(0), 1)

    def test_late_ones_come_behind_all_beneath_them(self):
        for depths in sample_trees((1, 2, 16, 17, 48, 257)):
            tree = PlainTree(depths)
            nodes = self.listed(Late(tree.tables, look_of(tree.blocks)), tree.count)
            turns = {node: turn for turn, node in enumerate(nodes)}
            self.assertEqual(list(range(tree.count)), sorted(nodes))
            for node in range(1, tree.count):
                self.assertLess(turns[node], turns[tree.elders[node]])
                if tree.older[node] is not None:
                    self.assertLess(turns[tree.older[node]], turns[node])

    def test_no_such_node(self):
        for tree in trees_of_each_kind():
            for kind in WALKS:
                walk = kind(tree.tables, WatchedLook(tree.blocks))
                for node in tree.no_nodes():
                    self.refused(NoNode, walk.behind, node)
                self.same(walk.begin(), plain_lists(tree)[kind][0])

    def test_written_out(self):
        # 1 1 1 0 1 0 0 1 1 1 0 0 0 0
        tables, blocks = kept_tree([0, 1, 2, 2, 1, 2, 3])
        look = look_of(blocks)
        self.same(self.listed(Walk(tables, look), 7), [0, 1, 2, 3, 4, 5, 6])
        self.same(self.listed(Late(tables, look), 7), [2, 3, 1, 6, 5, 4, 0])
        self.same(self.listed(Tips(tables, look), 7), [2, 3, 6])
        self.same([Walk(tables, look).behind(node) for node in range(7)], [1, 2, 3, 4, 5, 6, None])
        self.same([Late(tables, look).behind(node) for node in range(7)], [None, 6, 3, 1, 0, 4, 5])
        self.same([Tips(tables, look).behind(node) for node in range(7)], [2, 2, 3, 6, 6, 6, None])

    def test_one_node(self):
        tables, blocks = kept_tree([0])
        for kind in WALKS:
            walk = kind(tables, look_of(blocks))
            self.same((walk.begin(), walk.behind(0)), (0, None))
            self.same(self.listed(walk, 1), [0])


class Own(WalkCase):
    def test_a_told_list_is_the_askers_own(self):
        tree = PlainTree(mixed_depths(40, 3, 60))
        for kind in WALKS:
            walk = kind(tree.tables, look_of(tree.blocks))
            asked = plain_lists(tree)[kind]
            told = self.listed(walk, tree.count)
            told[0] = 77
            told.append(78)
            told.reverse()
            again = walk.listed()
            self.same(again, asked)
            # Nothing asked later changes a list that was told.
            walk.behind(3)
            walk.listed().clear()
            self.same(again, asked)
            self.same(walk.begin(), asked[0])

    def test_in_any_order_and_as_often_as_you_like(self):
        tree = PlainTree(mixed_depths(50, 8, 70))
        look = look_of(tree.blocks)
        walks = [(kind, kind(tree.tables, look), plain_next(tree, kind)) for kind in WALKS]
        for turn in range(300):
            node = turn * 17 % tree.count
            for kind, walk, behind in walks:
                self.same(walk.behind(node), behind[node])
                if turn % 60 == 0:
                    self.same(self.listed(walk, tree.count), plain_lists(tree)[kind])
                    self.same(walk.begin(), plain_lists(tree)[kind][0])
                    self.refused(NoNode, walk.behind, tree.count)

    def test_what_is_handed_in_stays_and_its_later_change_changes_nothing(self):
        for depths in sample_trees((1, 2, 16, 17, 40)):
            tree = PlainTree(depths)
            tables, blocks = kept_tree(depths)
            walks = [(kind, kind(tables, look_of(blocks))) for kind in WALKS]
            blocks[0] = 0
            blocks.append(9)
            for kind, walk in walks:
                self.same(self.listed(walk, tree.count), plain_lists(tree)[kind])
            self.same(tables, tree.tables)
            self.same(blocks, [0] + tree.blocks[1:] + [9])

    def test_trees_with_the_same_tables_are_told_apart(self):
        # These differ behind the look alone.
        one = kept_tree([0, 1, 1, 2])
        other = kept_tree([0, 1, 2, 1])
        self.assertEqual(one[0], other[0])
        first = Late(one[0], look_of(one[1]))
        second = Late(other[0], look_of(other[1]))
        self.same((first.begin(), second.begin()), (1, 2))
        self.same(self.listed(first, 4), [1, 3, 2, 0])
        self.same(self.listed(second, 4), [2, 1, 3, 0])


if __name__ == "__main__":
    unittest.main()
