import inspect
import itertools
import unittest

from tests.helper import (
    GREAT,
    Case,
    all_trees,
    plain_blocks,
    plain_bracket_tables,
    plain_brackets,
    plain_heights,
    sample_trees,
)
from thinwood import shapes as module
from thinwood.errors import NoBit, NoTree, TooMany
from thinwood.shapes import brackets_of, depths_of, kept_tree

COUNTS = (1, 2, 3, 15, 16, 17, 31, 32, 33, 100, 1023, 1024, 1025, 2047, 2048)

NO_DEPTHS = (
    [], [1], [-1], [2], [GREAT], [-GREAT], [1, 2], [-1, 0], [-1, 0, 1],
    # A second root; a leap; below nought.
    [0, 0], [0, 1, 0], [0, 1, 0, 1], [0, 1, 2, 0], [0, 2], [0, 1, 3], [0, 1, 2, 1, 3], [0, GREAT], [0, 1, GREAT],
    [0, -1], [0, 1, -1], [0, 1, 2, -1], [0, -GREAT], [0, 1, -GREAT, 1],
    [1] + list(range(1, 2048)), list(range(2047)) + [2048], list(range(2047)) + [0], [0] * 2048,
)


def is_plain_tree(depths):
    return depths[:1] == [0] and all(1 <= depths[k] <= depths[k - 1] + 1 for k in range(1, len(depths)))


class Interface(Case):
    def test_names_and_arguments(self):
        for name, arguments in {"brackets_of": ["depths"], "depths_of": ["bits"], "kept_tree": ["depths"]}.items():
            self.assertEqual(arguments, list(inspect.signature(getattr(module, name)).parameters), name)


class BothWays(Case):
    def test_as_the_plain_walk_tells(self):
        for depths in sample_trees(COUNTS):
            bits = plain_brackets(depths)
            self.same(brackets_of(depths), bits)
            self.same(depths_of(bits), depths)
            self.same(kept_tree(depths), (plain_bracket_tables(bits), plain_blocks(bits)))

    def test_each_small_tree(self):
        for many in range(1, 8):
            for depths in all_trees(many):
                bits = plain_brackets(depths)
                self.same(brackets_of(depths), bits)
                self.same(depths_of(bits), depths)
                self.same(kept_tree(depths), (plain_bracket_tables(bits), plain_blocks(bits)))

    def test_each_short_list(self):
        for many in range(6):
            for depths in map(list, itertools.product((-1, 0, 1, 2, 3), repeat=many)):
                if is_plain_tree(depths):
                    self.same(brackets_of(depths), plain_brackets(depths))
                    self.same(kept_tree(depths)[1], plain_blocks(plain_brackets(depths)))
                else:
                    self.refused(NoTree, brackets_of, depths)
                    self.refused(NoTree, kept_tree, depths)

    def test_each_short_row(self):
        for many in range(11):
            for bits in map(list, itertools.product((0, 1), repeat=many)):
                heights = plain_heights(bits)
                if many >= 2 and heights[-1] == 0 and min(heights[1:-1]) > 0:
                    depths = [heights[at] for at, bit in enumerate(bits) if bit == 1]
                    self.same(depths_of(bits), depths)
                    self.same(brackets_of(depths), bits)
                else:
                    self.refused(NoTree, depths_of, bits)

    def test_written_out(self):
        self.same(brackets_of([0]), [1, 0])
        self.same(brackets_of([0, 1]), [1, 1, 0, 0])
        self.same(brackets_of([0, 1, 1]), [1, 1, 0, 1, 0, 0])
        self.same(brackets_of([0, 1, 2, 1]), [1, 1, 1, 0, 0, 1, 0, 0])
        self.same(depths_of([1, 0]), [0])
        self.same(depths_of([1, 1, 1, 0, 0, 1, 0, 0]), [0, 1, 2, 1])
        self.same(kept_tree([0]), ((2, (0, 1), (None, 0)), [1]))
        self.same(kept_tree([0, 1, 1]), ((6, (0, 3), (None, 0)), [11]))

    def test_as_deep_as_there_are_nodes(self):
        chain = list(range(2048))
        self.same(brackets_of(chain), [1] * 2048 + [0] * 2048)
        self.same(depths_of([1] * 2048 + [0] * 2048), chain)
        self.same(kept_tree(chain)[1], [2 ** 32 - 1] * 64 + [0] * 64)


class Refusals(Case):
    def test_no_tree_among_depths(self):
        for depths in NO_DEPTHS:
            self.refused(NoTree, brackets_of, depths)
            self.refused(NoTree, kept_tree, depths)

    def test_one_wrong_depth(self):
        for depths in sample_trees((2, 16, 100, 2048)):
            for at in sorted({1, len(depths) // 2, len(depths) - 1}):
                for depth in (0, -1, -GREAT, depths[at - 1] + 2, depths[at - 1] + 3, GREAT):
                    changed = list(depths)
                    changed[at] = depth
                    self.refused(NoTree, brackets_of, changed)
                    self.refused(NoTree, kept_tree, changed)

    def test_too_many_nodes_go_ahead_of_no_tree(self):
        for many in (2049, 2050, 3000, 4096, 4097):
            for depths in (list(range(many)), [0] + [1] * (many - 1), [0] * many, [5] * many, [-GREAT] * many):
                self.refused(TooMany, brackets_of, depths)
                self.refused(TooMany, kept_tree, depths)

    def test_depths_of_refuses_as_kept_brackets_does(self):
        for bits in ([], [0], [1], [0, 1], [1, 0, 1, 0], [1, 1, 0], [1, 1, 0, 0, 0], [0, 0, 1, 1], [1] * 4096):
            self.refused(NoTree, depths_of, bits)
        for number in (-1, 2, 3, 2 ** 32, GREAT, -GREAT):
            for bits in ([number], [1, number], [1, 0, 1, number], [1, number, 0, 0], [1] * 4095 + [number]):
                self.refused(NoBit, depths_of, bits)
            self.refused(TooMany, depths_of, [number] * 4097)
        self.refused(TooMany, depths_of, [1] * 2049 + [0] * 2049)
        self.refused(TooMany, depths_of, [0] * 4097)


class Own(Case):
    def test_what_is_handed_in_stays_and_what_is_told_is_the_askers_own(self):
        for depths in sample_trees((1, 2, 16, 17, 33)):
            bits = plain_brackets(depths)
            kept = (plain_bracket_tables(bits), plain_blocks(bits))
            for function, handed, asked in ((brackets_of, depths, bits), (depths_of, bits, depths)):
                before = list(handed)
                answer = list(asked)
                told = function(handed)
                self.same(handed, before)
                told[0] = 9
                told.append(9)
                self.same(handed, before)
                self.same(function(handed), answer)
            tables, blocks = kept_tree(depths)
            blocks[0] = 9
            blocks.append(9)
            self.same(kept_tree(depths), kept)

    def test_a_later_change_of_what_was_handed_in_changes_nothing(self):
        for depths in sample_trees((1, 2, 16, 17, 33)):
            bits = plain_brackets(depths)
            told = (brackets_of(depths), depths_of(bits), kept_tree(depths))
            asked = (list(bits), list(depths), (plain_bracket_tables(bits), plain_blocks(bits)))
            depths[0] = 5
            depths.append(7)
            bits[0] = 0
            bits.append(1)
            self.same(told, asked)

    def test_a_refused_list_stays_as_it_was(self):
        for function, handed in ((brackets_of, [0, 1, 3]), (kept_tree, [0, 0]), (depths_of, [1, 0, 2])):
            before = list(handed)
            with self.assertRaises(ValueError):
                function(handed)
            self.same(handed, before)


if __name__ == "__main__":
    unittest.main()
