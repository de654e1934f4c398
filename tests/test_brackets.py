import inspect
import itertools
import unittest

from tests.helper import (
    GREAT,
    Case,
    WatchedLook,
    all_trees,
    mixed_depths,
    plain_blocks,
    plain_bracket_tables,
    plain_brackets,
    plain_heights,
    sample_rows,
    sample_trees,
)
from thinwood import brackets as module
from thinwood.blocks import look_of
from thinwood.brackets import (
    closing,
    further_out,
    height,
    is_tree,
    kept_brackets,
    low_ahead,
    low_behind,
    lowest,
    opening,
)
from thinwood.errors import NoBit, NoNode, NoPlace, NoTree, TooMany

# The rows of bits of these trees end at, just ahead of and just behind the ends of blocks.
FEW = (1, 2, 3, 15, 16, 17, 31, 32, 33, 47, 48, 49)
MANY = (64, 65, 255, 256, 257, 1024, 2047, 2048)

NO_TREES = (
    [], [0], [1], [0, 0], [0, 1], [1, 1], [1, 0, 1], [1, 0, 0], [0, 1, 0], [1, 1, 0],
    # Down to 0 too early, and on from there; not down to 0 at all; below 0.
    [1, 0, 1, 0], [1, 1, 0, 0, 1, 0], [1, 1, 0, 1], [1, 1, 1, 0], [1, 0, 0, 1], [1, 0, 0, 1, 1, 0], [0, 1, 1, 0],
    [1, 1, 0, 0, 0], [1] * 32, [0] * 32, [1] * 4096, [0] * 4096, [1, 0] * 2048, [1, 0] * 16, [0, 1] * 16,
    [1] * 16 + [0] * 16 + [1, 0], [1, 0] + [1] * 16 + [0] * 16, [1] * 2047 + [0] * 2047 + [1, 0],
    [1] * 17 + [0] * 15, [1] * 15 + [0] * 17, [1] * 2048 + [0] * 2047, [1] * 2049 + [0] * 2047,
)


class Tree:
    """A tree's brackets, with all that a plain walk over them tells."""

    def __init__(self, depths):
        self.bits = plain_brackets(depths)
        self.many = len(self.bits)
        self.tables = plain_bracket_tables(self.bits)
        self.blocks = plain_blocks(self.bits)
        self.heights = plain_heights(self.bits)
        self.others = {}
        self.rounds = {}
        unclosed = []
        for at, bit in enumerate(self.bits):
            if bit == 1:
                unclosed.append(at)
                # The pair itself and up to forty that stand round it, from the innermost one on.
                self.rounds[at] = unclosed[-41:][::-1]
            else:
                self.others[at] = unclosed.pop()
                self.others[self.others[at]] = at


def trees_of_each_kind():
    for depths in sample_trees(FEW + MANY):
        yield Tree(depths)


def places_of(tree):
    """All places where there are few; else some all over the row, the ends of blocks and the row's among them."""
    if tree.many <= 2 * FEW[-1]:
        return list(range(tree.many + 1))
    near = [0, 1, 2, 3, tree.many - 2, tree.many - 1, tree.many]
    for block in (1, 2, len(tree.blocks) // 2, len(tree.blocks) - 1):
        near.extend([32 * block - 2, 32 * block - 1, 32 * block, 32 * block + 1, 32 * block + 2])
    near.extend(range(17, tree.many, tree.many // 8))
    return sorted({at for at in near if at <= tree.many})


def goals_of(tree, at):
    tall = max(tree.heights)
    if tree.many <= 34:
        return list(range(-2, tall + 3)) + [GREAT, -GREAT]
    near = tree.heights[at]
    goals = {near - 40, near - 3, near - 2, near - 1, near, near + 1, near + 2, -1, 0, 1, tall - 1, tall, tall + 1}
    return sorted(goals | {GREAT, -GREAT})


class Interface(Case):
    def test_names_and_arguments(self):
        told = {
            "is_tree": ["bits"],
            "kept_brackets": ["bits"],
            "height": ["tables", "look", "at"],
            "lowest": ["tables", "look", "at", "upto"],
            "low_behind": ["tables", "look", "at", "goal"],
            "low_ahead": ["tables", "look", "at", "goal"],
            "closing": ["tables", "look", "at"],
            "opening": ["tables", "look", "at"],
            "further_out": ["tables", "look", "at", "pairs"],
        }
        for name, arguments in told.items():
            self.assertEqual(arguments, list(inspect.signature(getattr(module, name)).parameters), name)


class IsTree(Case):
    def hold(self, bits):
        heights = plain_heights(bits)
        asked = len(bits) >= 2 and heights[-1] == 0 and all(tall > 0 for tall in heights[1:-1])
        self.same(is_tree(bits), asked, bits)

    def test_each_short_row(self):
        for many in range(13):
            for bits in itertools.product((0, 1), repeat=many):
                self.hold(list(bits))

    def test_longer_rows(self):
        for bits in sample_rows():
            self.hold(bits)
        for bits in NO_TREES:
            self.same(is_tree(bits), False, bits)

    def test_trees_and_trees_with_one_bit_changed(self):
        for depths in sample_trees(FEW + MANY):
            bits = plain_brackets(depths)
            self.same(is_tree(bits), True, depths)
            self.same(is_tree(bits + bits), False)
            self.same(is_tree(bits[:-1]), False)
            self.same(is_tree(bits[1:]), False)
            for at in (0, len(bits) // 2, len(bits) - 1):
                changed = list(bits)
                changed[at] = 1 - changed[at]
                self.same(is_tree(changed), False)

    def test_somewhat_more_bits_are_not_refused(self):
        self.same(is_tree([1] * 2049 + [0] * 2049), True)
        self.same(is_tree([1] * 2049 + [0] * 2048), False)

    def test_the_bits_stay_as_they_were(self):
        for bits in ([1, 1, 0, 0], [1, 0, 1, 0], []):
            before = list(bits)
            is_tree(bits)
            self.same(bits, before)


class KeptBrackets(Case):
    def test_tables_and_blocks_as_the_plain_walk_tells(self):
        for depths in sample_trees(FEW + MANY):
            bits = plain_brackets(depths)
            self.same(kept_brackets(bits), (plain_bracket_tables(bits), plain_blocks(bits)))

    def test_each_small_tree(self):
        for many in range(1, 8):
            for depths in all_trees(many):
                bits = plain_brackets(depths)
                self.same(kept_brackets(bits), (plain_bracket_tables(bits), plain_blocks(bits)))

    def test_written_out(self):
        self.same(kept_brackets([1, 0]), ((2, (0, 1), (None, 0)), [1]))
        self.same(kept_brackets([1, 1, 0, 1, 0, 0]), ((6, (0, 3), (None, 0)), [11]))
        chain = [1] * 40 + [0] * 40
        nodes = (None, 0, 1, 0, 1, 16, 0, None)
        self.same(kept_brackets(chain), ((80, (0, 32, 40, 40), nodes), [2 ** 32 - 1, 255, 0]))
        # The bits of the last block that are none of the row's would bring the height below 0.
        self.same(kept_brackets([1] * 16 + [0] * 16), ((32, (0, 16), (None, 0)), [65535]))
        self.same(kept_brackets([1] * 17 + [0] * 17), ((34, (0, 17, 17), (None, 0, 1, 0)), [2 ** 17 - 1, 0]))

    def test_no_tree(self):
        for bits in NO_TREES:
            self.refused(NoTree, kept_brackets, bits)
        for bits in sample_rows():
            if not is_tree(bits):
                self.refused(NoTree, kept_brackets, bits)

    def test_no_bit_goes_ahead_of_no_tree(self):
        for number in (-1, 2, 3, 2 ** 32, GREAT, -GREAT):
            for bits in ([number], [1, number], [number, 0], [1, 0, number, 0], [1, 1, 0, number], [0] * 40 + [number]):
                self.refused(NoBit, kept_brackets, bits)
            # The heights would be a tree's, if this were a bit.
            self.refused(NoBit, kept_brackets, [1, number] + [0] * 6)
            self.refused(NoBit, kept_brackets, [1] * 2048 + [0] * 2047 + [number])

    def test_too_many_goes_ahead_of_the_others(self):
        self.refused(TooMany, kept_brackets, [1] * 2049 + [0] * 2049)
        for many in (4097, 4098, 5000, 9000):
            for number in (0, 1, 2, -1, GREAT):
                self.refused(TooMany, kept_brackets, [number] * many)
                self.refused(TooMany, kept_brackets, [1] * (many - 1) + [number])

    def test_the_bits_stay_and_the_told_list_is_the_askers_own(self):
        for depths in sample_trees(FEW):
            bits = plain_brackets(depths)
            asked = (plain_bracket_tables(bits), plain_blocks(bits))
            told = kept_brackets(bits)
            self.same(bits, plain_brackets(depths))
            told[1][0] = 77
            told[1].append(1)
            self.same(kept_brackets(bits), asked)
            again = kept_brackets(bits)
            bits[0] = 0
            bits.append(1)
            self.same(again, asked)
        for bits in ([1, 0, 1, 0], [1, 2], [1] * 4097):
            before = list(bits)
            with self.assertRaises(ValueError):
                kept_brackets(bits)
            self.same(bits, before)


class Questions(Case):
    def hold(self, tree, question, asked_for, answer):
        self.answered(tree, question, asked_for, answer, 1 if question is height else 4)

    def hold_goal(self, tree, at, goal):
        behind = [k for k in range(at + 1, tree.many + 1) if tree.heights[k] <= goal]
        ahead = [k for k in range(at) if tree.heights[k] <= goal]
        self.hold(tree, low_behind, (at, goal), behind[0] if behind else None)
        self.hold(tree, low_ahead, (at, goal), ahead[-1] if ahead else None)

    def hold_pairs(self, tree, at):
        if tree.bits[at] == 0:
            self.hold(tree, opening, (at,), tree.others[at])
            return
        self.hold(tree, closing, (at,), tree.others[at])
        rounds = tree.rounds[at]
        for pairs in sorted({0, 1, 2, 3, len(rounds) // 2, len(rounds) - 2, len(rounds) - 1}):
            if 0 <= pairs < len(rounds):
                self.hold(tree, further_out, (at, pairs), rounds[pairs])
        deep = tree.heights[at]
        self.hold(tree, further_out, (at, deep), 0)
        for pairs in (deep + 1, deep + 2, deep + 33, 5000, 2 ** 32, GREAT):
            self.hold(tree, further_out, (at, pairs), None)

    def test_each_small_tree(self):
        for many in range(1, 7):
            for tree in map(Tree, all_trees(many)):
                for at in range(tree.many + 1):
                    self.hold(tree, height, (at,), tree.heights[at])
                    for upto in range(at + 1, tree.many + 1):
                        self.hold(tree, lowest, (at, upto), min(tree.heights[at + 1:upto + 1]))
                    for goal in range(-1, max(tree.heights) + 2):
                        self.hold_goal(tree, at, goal)
                    if at < tree.many:
                        self.hold_pairs(tree, at)

    def test_height(self):
        for tree in trees_of_each_kind():
            for at in range(tree.many + 1):
                self.hold(tree, height, (at,), tree.heights[at])

    def test_lowest(self):
        for tree in trees_of_each_kind():
            places = places_of(tree)
            for at in places:
                for upto in places:
                    if at < upto:
                        self.hold(tree, lowest, (at, upto), min(tree.heights[at + 1:upto + 1]))

    def test_low_behind_and_low_ahead(self):
        for tree in trees_of_each_kind():
            for at in places_of(tree):
                for goal in goals_of(tree, at):
                    self.hold_goal(tree, at, goal)

    def test_closing_opening_and_further_out(self):
        for tree in trees_of_each_kind():
            for at in range(tree.many) if tree.many < 600 else places_of(tree)[:-1]:
                self.hold_pairs(tree, at)

    def test_each_pair_of_the_most_nodes(self):
        for depths in (list(range(2048)), [0] + [1] * 2047, mixed_depths(2048, 5, 98)):
            tree = Tree(depths)
            for at in range(tree.many):
                self.hold(tree, opening if tree.bits[at] == 0 else closing, (at,), tree.others[at])

    def test_each_pair_further_out_of_a_chain(self):
        tree = Tree(list(range(2048)))
        for at in (0, 1, 31, 32, 33, 1000, 2047):
            for pairs in range(at + 1):
                self.hold(tree, further_out, (at, pairs), at - pairs)
            self.hold(tree, further_out, (at, at + 1), None)

    def test_brackets_that_end_by_a_blocks_end(self):
        # The root's first young is a chain whose brackets end at each place round the first two ends of blocks.
        for deep in range(13, 36):
            for beside in (0, 1, 20):
                tree = Tree(list(range(deep + 1)) + [1] * beside)
                for at in range(tree.many):
                    self.hold_pairs(tree, at)
                    self.hold_goal(tree, at, tree.heights[at])

    def test_place_nought_and_the_rows_end(self):
        for tree in trees_of_each_kind():
            self.hold(tree, height, (0,), 0)
            self.hold(tree, height, (tree.many,), 0)
            self.hold(tree, lowest, (0, tree.many), 0)
            self.hold(tree, lowest, (tree.many - 1, tree.many), 0)
            self.hold(tree, lowest, (0, 1), 1)
            for goal in (-GREAT, -1, 0, 1, GREAT):
                self.hold(tree, low_behind, (tree.many, goal), None)
                self.hold(tree, low_ahead, (0, goal), None)
                self.hold(tree, low_ahead, (1, goal), 0 if goal >= 0 else None)
                self.hold(tree, low_behind, (tree.many - 1, goal), tree.many if goal >= 0 else None)
            self.hold(tree, low_ahead, (tree.many, 0), 0)
            self.hold(tree, low_behind, (0, 0), tree.many)
            self.hold(tree, closing, (0,), tree.many - 1)
            self.hold(tree, opening, (tree.many - 1,), 0)
            self.hold(tree, further_out, (0, 0), 0)
            self.hold(tree, further_out, (0, 1), None)

    def test_no_place(self):
        for tree in trees_of_each_kind():
            many = tree.many
            for at in (-1, -2, -31, -32, -33, -many, -many - 1, -5000, -(2 ** 32), -GREAT):
                self.refuse_all(tree, at)
            for at in (many + 1, many + 2, many + 31, many + 32, 5000, 2 ** 32, GREAT):
                self.refuse_all(tree, at)
            look = WatchedLook(tree.blocks)
            for question in (closing, opening):
                self.refused(NoPlace, question, tree.tables, look, many)
            for pairs in (0, 1, GREAT):
                self.refused(NoPlace, further_out, tree.tables, look, many, pairs)

    def refuse_all(self, tree, at):
        look = WatchedLook(tree.blocks)
        for question in (height, closing, opening):
            self.refused(NoPlace, question, tree.tables, look, at)
        for question in (low_behind, low_ahead, further_out):
            for goal in (0, 1, GREAT):
                self.refused(NoPlace, question, tree.tables, look, at, goal)
        for question in (low_behind, low_ahead):
            self.refused(NoPlace, question, tree.tables, look, at, -GREAT)
        for other in (0, 1, tree.many // 2, tree.many, at - 1, at, at + 1):
            self.refused(NoPlace, lowest, tree.tables, look, at, other)
            self.refused(NoPlace, lowest, tree.tables, look, other, at)

    def test_stretches_turned_about_or_without_places(self):
        for depths in sample_trees((1, 2, 16, 17, 33)):
            tree = Tree(depths)
            for at in range(tree.many + 1):
                for upto in range(at + 1):
                    self.refused(NoPlace, lowest, tree.tables, WatchedLook(tree.blocks), at, upto)

    def test_the_wrong_bracket(self):
        for tree in trees_of_each_kind():
            for at in places_of(tree)[:-1]:
                look = WatchedLook(tree.blocks)
                if tree.bits[at] == 1:
                    self.refused(NoNode, opening, tree.tables, look, at)
                else:
                    self.refused(NoNode, closing, tree.tables, look, at)
                    for pairs in (0, 1, 5, GREAT):
                        self.refused(NoNode, further_out, tree.tables, look, at, pairs)
                self.assertLessEqual(len(look.seen), 4)

    def test_in_any_order_and_as_often_as_you_like(self):
        tree = Tree(mixed_depths(60, 4, 80))
        look = look_of(tree.blocks)
        for step in (7, 11, 13):
            for turn in range(300):
                at = turn * step % tree.many
                self.same(height(tree.tables, look, at), tree.heights[at])
                self.same(lowest(tree.tables, look, at, tree.many), 0)
                question = opening if tree.bits[at] == 0 else closing
                self.same(question(tree.tables, look, at), tree.others[at])

    def test_changed_lists_change_no_later_answer_and_questions_change_nothing(self):
        for depths in sample_trees((1, 16, 17, 40)):
            tree = Tree(depths)
            bits = list(tree.bits)
            tables, blocks = kept_brackets(bits)
            look = look_of(blocks)
            blocks[0] = 0
            blocks.append(5)
            bits.reverse()
            for at in range(tree.many):
                self.same(height(tables, look, at), tree.heights[at])
                question = opening if tree.bits[at] == 0 else closing
                self.same(question(tables, look, at), tree.others[at])
                low_behind(tables, look, at, 1)
                low_ahead(tables, look, at, 1)
                lowest(tables, look, at, tree.many)
            self.same(tables, tree.tables)
            self.same(blocks, [0] + tree.blocks[1:] + [5])

    def test_trees_with_the_same_tables_are_told_apart(self):
        # These differ behind the look alone.
        one = [1, 1, 0, 1, 1, 0, 0, 0]
        other = [1, 1, 1, 0, 0, 1, 0, 0]
        self.assertEqual(kept_brackets(one)[0], kept_brackets(other)[0])
        for bits, asked in ((one, [7, 2]), (other, [7, 4]), (one, [7, 2])):
            tables, blocks = kept_brackets(bits)
            look = look_of(blocks)
            self.same([closing(tables, look, 0), closing(tables, look, 1)], asked)


if __name__ == "__main__":
    unittest.main()
