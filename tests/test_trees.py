import inspect
import unittest

from tests.helper import GREAT, Case, PlainTree, WatchedLook, all_trees, mixed_depths, sample_trees
from thinwood import trees as module
from thinwood.blocks import look_of
from thinwood.errors import NoNode
from thinwood.shapes import kept_tree
from thinwood.trees import (
    beneath_of,
    common_of,
    depth_of,
    elder_of,
    first_of,
    is_over,
    older_of,
    place_of,
    up_of,
    younger_of,
)

# The rows of bits of these trees end at, just ahead of and just behind the ends of blocks.
FEW = (1, 2, 3, 15, 16, 17, 31, 32, 33, 47, 48, 49)
MANY = (64, 65, 255, 256, 257, 1024, 2047, 2048)

OF_ONE = (place_of, depth_of, elder_of, first_of, younger_of, older_of, beneath_of)
OF_TWO = (is_over, common_of)


def trees_of_each_kind():
    for depths in sample_trees(FEW + MANY):
        yield PlainTree(depths)


class Interface(Case):
    def test_names_and_arguments(self):
        for question in OF_ONE:
            self.assertEqual(["tables", "look", "node"], list(inspect.signature(question).parameters))
        for question in OF_TWO:
            self.assertEqual(["tables", "look", "one", "other"], list(inspect.signature(question).parameters))
        self.assertEqual(["tables", "look", "node", "steps"], list(inspect.signature(up_of).parameters))
        for question in OF_ONE + OF_TWO + (up_of,):
            self.assertIs(question, getattr(module, question.__name__))


class Questions(Case):
    def hold(self, tree, question, asked_for, answer):
        self.answered(tree, question, asked_for, answer, 12 if question is common_of else 8)

    def hold_node(self, tree, node):
        self.hold(tree, place_of, (node,), tree.openings[node])
        self.hold(tree, depth_of, (node,), tree.depths[node])
        self.hold(tree, elder_of, (node,), tree.elders[node])
        self.hold(tree, first_of, (node,), tree.first(node))
        self.hold(tree, younger_of, (node,), tree.younger[node])
        self.hold(tree, older_of, (node,), tree.older[node])
        self.hold(tree, beneath_of, (node,), tree.beneath[node])

    def hold_steps(self, tree, node):
        line = tree.line(node)
        for steps in sorted({0, 1, 2, 3, len(line) // 3, len(line) // 2, len(line) - 3, len(line) - 2, len(line) - 1}):
            if 0 <= steps < len(line):
                self.hold(tree, up_of, (node, steps), line[steps])
        for steps in (len(line), len(line) + 1, len(line) + 31, len(line) + 32, 5000, 2 ** 32, GREAT):
            self.hold(tree, up_of, (node, steps), None)

    def hold_two(self, tree, one, other):
        self.hold(tree, is_over, (one, other), one in tree.line(other))
        self.hold(tree, common_of, (one, other), tree.common(one, other))

    def test_each_small_tree(self):
        for many in range(1, 8):
            for tree in map(PlainTree, all_trees(many)):
                for node in range(many):
                    self.hold_node(tree, node)
                    for steps in range(tree.depths[node] + 1):
                        self.hold(tree, up_of, (node, steps), tree.line(node)[steps])
                    self.hold(tree, up_of, (node, tree.depths[node] + 1), None)
                    for other in range(many):
                        self.hold_two(tree, node, other)

    def test_of_one_node(self):
        for tree in trees_of_each_kind():
            for node in tree.picked(60):
                self.hold_node(tree, node)

    def test_steps_up(self):
        for tree in trees_of_each_kind():
            for node in tree.picked(12):
                self.hold_steps(tree, node)

    def test_of_two_nodes(self):
        for tree in trees_of_each_kind():
            nodes = tree.picked(3)
            for one in nodes:
                for other in nodes:
                    self.hold_two(tree, one, other)

    def test_two_nodes_of_one_line(self):
        for tree in trees_of_each_kind():
            for node in tree.picked(5):
                line = tree.line(node)
                for over in {line[0], line[len(line) // 2], line[-1]}:
                    self.hold(tree, common_of, (node, over), over)
                    self.hold(tree, common_of, (over, node), over)
                    self.hold(tree, is_over, (over, node), True)
                    self.hold(tree, is_over, (node, over), node == over)

    def test_each_node_of_the_greatest_trees(self):
        for depths in (list(range(2048)), [0] + [1] * 2047, mixed_depths(2048, 5, 98), mixed_depths(2048, 6, 60)):
            tree = PlainTree(depths)
            for node in range(tree.count):
                self.hold_node(tree, node)

    def test_each_two_nodes_of_a_middling_tree(self):
        for tree in (PlainTree(mixed_depths(60, 3, 70)), PlainTree(mixed_depths(52, 8, 90))):
            for one in range(tree.count):
                for other in range(tree.count):
                    self.hold_two(tree, one, other)

    def test_each_step_of_a_chain(self):
        tree = PlainTree(list(range(2048)))
        for node in (0, 1, 31, 32, 33, 1000, 2047):
            for steps in range(node + 1):
                self.hold(tree, up_of, (node, steps), node - steps)
            self.hold(tree, up_of, (node, node + 1), None)

    def test_brackets_by_a_blocks_end(self):
        # A chain under the root, and young beside it: brackets of each kind at each place round the ends of blocks.
        for deep in range(13, 36):
            for beside in (0, 1, 2, 20):
                tree = PlainTree(list(range(deep + 1)) + [1] * beside)
                for node in range(tree.count):
                    self.hold_node(tree, node)
                self.hold_two(tree, deep, tree.count - 1)
                self.hold_two(tree, tree.count - 1, deep // 2 + 1)

    def test_young_far_from_one_another(self):
        # Young with so much beneath them that the brackets of each stand in blocks far apart.
        depths = [0]
        for young in range(7):
            depths.extend([1] + mixed_depths_beneath(250 + young))
        tree = PlainTree(depths)
        for node in tree.young[0]:
            self.hold_node(tree, node)
            for other in tree.young[0]:
                self.hold_two(tree, node, other)
                self.hold_two(tree, node, other + tree.beneath[other])
                self.hold_two(tree, node + tree.beneath[node], other + 1)

    def test_the_root(self):
        for tree in trees_of_each_kind():
            self.hold(tree, place_of, (0,), 0)
            self.hold(tree, depth_of, (0,), 0)
            for question in (elder_of, younger_of, older_of):
                self.hold(tree, question, (0,), None)
            self.hold(tree, first_of, (0,), 1 if tree.count > 1 else None)
            self.hold(tree, beneath_of, (0,), tree.count - 1)
            self.hold(tree, up_of, (0, 0), 0)
            for steps in (1, 2, 40, 5000, GREAT):
                self.hold(tree, up_of, (0, steps), None)
            for node in tree.picked(10):
                self.hold(tree, is_over, (0, node), True)
                self.hold(tree, is_over, (node, 0), node == 0)
                self.hold(tree, common_of, (0, node), 0)
                self.hold(tree, common_of, (node, 0), 0)
                self.hold(tree, common_of, (node, node), node)
                self.hold(tree, up_of, (node, 0), node)
                self.hold(tree, up_of, (node, tree.depths[node]), 0)

    def test_two_nodes_under_the_root_alone(self):
        for many in (3, 16, 17, 33, 2048):
            tree = PlainTree([0] + [1] * (many - 1))
            for one, other in ((1, 2), (1, many - 1), (many // 2, many - 1), (many - 1, many - 2), (many // 2, 1)):
                if one != other:
                    self.hold(tree, common_of, (one, other), 0)
                    self.hold(tree, is_over, (one, other), False)
                    self.hold(tree, is_over, (other, one), False)

    def test_written_out(self):
        # 1 1 1 0 1 0 0 1 1 1 0 0 0 0
        tables, blocks = kept_tree([0, 1, 2, 2, 1, 2, 3])
        look = look_of(blocks)
        asked = (
            [0, 1, 2, 4, 7, 8, 9],
            [0, 1, 2, 2, 1, 2, 3],
            [None, 0, 1, 1, 0, 4, 5],
            [1, 2, None, None, 5, 6, None],
            [None, 4, 3, None, None, None, None],
            [None, None, None, 2, 1, None, None],
            [6, 2, 0, 0, 2, 1, 0],
        )
        for question, answers in zip(OF_ONE, asked, strict=True):
            self.same([question(tables, look, node) for node in range(7)], answers, question.__name__)
        self.same([up_of(tables, look, 6, steps) for steps in range(6)], [6, 5, 4, 0, None, None])
        self.same([common_of(tables, look, 6, other) for other in range(7)], [0, 0, 0, 0, 4, 5, 6])
        self.same([common_of(tables, look, 2, other) for other in range(7)], [0, 1, 2, 1, 0, 0, 0])
        self.same([is_over(tables, look, 4, other) for other in range(7)], [False] * 4 + [True] * 3)
        self.same([is_over(tables, look, one, 3) for one in range(7)], [True, True, False, True, False, False, False])


def mixed_depths_beneath(seed):
    """The depths of what is beneath a node of depth 1."""
    return [depth + 1 for depth in mixed_depths(seed, seed, 80)[1:]]


class Refusals(Case):
    def test_no_such_node(self):
        for tree in trees_of_each_kind():
            look = WatchedLook(tree.blocks)
            for node in tree.no_nodes():
                for question in OF_ONE:
                    self.refused(NoNode, question, tree.tables, look, node)
                for steps in (0, 1, 2, tree.count, GREAT):
                    self.refused(NoNode, up_of, tree.tables, look, node, steps)

    def test_either_of_two_nodes(self):
        for tree in trees_of_each_kind():
            look = WatchedLook(tree.blocks)
            for question in OF_TWO:
                for wrong in tree.no_nodes():
                    for other in {0, tree.count // 2, tree.count - 1}:
                        self.refused(NoNode, question, tree.tables, look, wrong, other)
                        self.refused(NoNode, question, tree.tables, look, other, wrong)
                    for other in (wrong, -1, tree.count, GREAT, -GREAT):
                        self.refused(NoNode, question, tree.tables, look, wrong, other)
                        self.refused(NoNode, question, tree.tables, look, other, wrong)


class Own(Case):
    def test_in_any_order_and_as_often_as_you_like(self):
        tree = PlainTree(mixed_depths(60, 4, 80))
        look = look_of(tree.blocks)
        for step in (7, 11, 13):
            for turn in range(200):
                node = turn * step % tree.count
                other = turn * turn % tree.count
                self.same(common_of(tree.tables, look, node, other), tree.common(node, other))
                self.same(elder_of(tree.tables, look, node), tree.elders[node])
                self.same(beneath_of(tree.tables, look, other), tree.beneath[other])
                self.refused(NoNode, depth_of, tree.tables, look, tree.count)

    def test_changed_lists_change_no_later_answer_and_questions_change_nothing(self):
        for depths in sample_trees((1, 16, 17, 40)):
            tree = PlainTree(depths)
            handed = list(depths)
            tables, blocks = kept_tree(handed)
            look = look_of(blocks)
            blocks[0] = 0
            blocks.append(5)
            handed.reverse()
            for node in range(tree.count):
                for question, answer in zip(OF_ONE, self.answers(tree, node), strict=True):
                    self.same(question(tables, look, node), answer)
                self.same(up_of(tables, look, node, 2), (tree.line(node) + [None, None])[2])
                self.same(is_over(tables, look, node, 0), node == 0)
                self.same(common_of(tables, look, 0, node), 0)
            self.same(tables, tree.tables)
            self.same(blocks, [0] + tree.blocks[1:] + [5])

    def answers(self, tree, node):
        return (tree.openings[node], tree.depths[node], tree.elders[node], tree.first(node), tree.younger[node],
                tree.older[node], tree.beneath[node])

    def test_trees_with_the_same_tables_are_told_apart(self):
        # These differ behind the look alone.
        one = kept_tree([0, 1, 1, 2])
        other = kept_tree([0, 1, 2, 1])
        self.assertEqual(one[0], other[0])
        for kept, elders in ((one, [None, 0, 0, 2]), (other, [None, 0, 1, 0]), (one, [None, 0, 0, 2])):
            look = look_of(kept[1])
            self.same([elder_of(kept[0], look, node) for node in range(4)], elders)


if __name__ == "__main__":
    unittest.main()
