import inspect
import unittest

from tests.helper import (
    FULL,
    GREAT,
    LENGTHS,
    Case,
    block_bits,
    mixed_row,
    numbers_from,
    plain_blocks,
    sample_blocks,
    sample_rows,
)
from thinwood import blocks as module
from thinwood.blocks import first_low_in, last_low_in, look_of, low_in, one_in, ones_in, packed, unpacked
from thinwood.errors import NoBit, NoPlace, TooMany

NO_BITS = (-1, 2, 3, -2, 2 ** 32, 2 ** 32 + 1, -(2 ** 32), GREAT, GREAT - 1, -GREAT, 10 ** 299, 1 - 10 ** 299)


def plain_nets(block):
    """The net of the first k bits, at place k."""
    bits = block_bits(block)
    return [sum(bits[:k]) - (k - sum(bits[:k])) for k in range(33)]


class Interface(Case):
    def test_names_and_arguments(self):
        told = {
            "packed": ["bits"],
            "unpacked": ["blocks", "many"],
            "ones_in": ["block", "upto"],
            "one_in": ["block", "nth"],
            "low_in": ["block", "upto"],
            "first_low_in": ["block", "start", "stop", "goal"],
            "last_low_in": ["block", "start", "stop", "goal"],
            "look_of": ["blocks"],
        }
        for name, arguments in told.items():
            self.assertEqual(arguments, list(inspect.signature(getattr(module, name)).parameters), name)


class Packed(Case):
    def test_as_the_plain_walk_tells(self):
        for bits in sample_rows():
            self.same(packed(bits), plain_blocks(bits))

    def test_each_bit_alone(self):
        for at in range(100):
            bits = [0] * 100
            bits[at] = 1
            blocks = [0, 0, 0, 0]
            blocks[at // 32] = 2 ** (at % 32)
            self.same(packed(bits), blocks)

    def test_written_out(self):
        self.same(packed([]), [])
        self.same(packed([0]), [0])
        self.same(packed([1]), [1])
        self.same(packed([1, 1, 0, 1]), [11])
        self.same(packed([1] * 31), [2 ** 31 - 1])
        self.same(packed([1] * 32), [FULL])
        self.same(packed([1] * 33), [FULL, 1])
        self.same(packed([0] * 33), [0, 0])
        self.same(packed([1] * 4096), [FULL] * 128)

    def test_too_many(self):
        for many in (4097, 4098, 4128, 5000, 9000):
            self.refused(TooMany, packed, [0] * many)
            self.refused(TooMany, packed, [1] * many)

    def test_no_bit(self):
        for number in NO_BITS:
            for many in (1, 2, 32, 33, 4096):
                for at in sorted({0, many // 2, many - 1}):
                    bits = mixed_row(many, 5)
                    bits[at] = number
                    self.refused(NoBit, packed, bits)

    def test_too_many_goes_ahead_of_no_bit(self):
        for at in (0, 4095, 4096):
            for number in NO_BITS:
                bits = [1] * 4097
                bits[at] = number
                self.refused(TooMany, packed, bits)

    def test_the_bits_stay_as_they_were(self):
        for bits in sample_rows():
            before = list(bits)
            packed(bits)
            self.same(bits, before)
        for bits in ([0] * 4097, [1, 0, 2], [-1, 0]):
            before = list(bits)
            with self.assertRaises(ValueError):
                packed(bits)
            self.same(bits, before)

    def test_the_told_list_is_the_askers_own(self):
        for many in LENGTHS:
            bits = mixed_row(many, 8)
            told = packed(bits)
            asked = list(told)
            for k in range(len(told)):
                told[k] = 7
            told.append(5)
            self.same(packed(bits), asked)
            again = packed(bits)
            bits.reverse()
            bits.append(1)
            self.same(again, asked)


class Unpacked(Case):
    def test_as_the_plain_walk_tells(self):
        for many in (0, 1, 2, 3, 4, 128):
            source = numbers_from(many)
            blocks = [next(source) for k in range(many)]
            bits = [bit for block in blocks for bit in block_bits(block)]
            for upto in range(len(bits) + 1) if many < 5 else (0, 1, 31, 32, 33, 4095, 4096):
                self.same(unpacked(blocks, upto), bits[:upto])

    def test_undoes_packed(self):
        for bits in sample_rows():
            self.same(unpacked(packed(bits), len(bits)), bits)

    def test_blocks_at_the_ends_of_their_range(self):
        self.same(unpacked([0], 32), [0] * 32)
        self.same(unpacked([FULL], 32), [1] * 32)
        self.same(unpacked([FULL, 0, 1], 65), [1] * 32 + [0] * 32 + [1])
        self.same(unpacked([], 0), [])

    def test_of_however_many_blocks(self):
        for many in (129, 130, 1000):
            source = numbers_from(many)
            blocks = [next(source) for k in range(many)]
            bits = [bit for block in blocks for bit in block_bits(block)]
            for upto in (0, 4096, 4097, 32 * many - 1, 32 * many):
                self.same(unpacked(blocks, upto), bits[:upto])

    def test_no_place(self):
        for blocks in ([], [0], [FULL], [1, 2], [FULL] * 128, [5] * 200):
            most = 32 * len(blocks)
            for many in (-1, -2, -31, -32, -most - 1, -GREAT, most + 1, most + 2, most + 32, most + 10000, GREAT):
                self.refused(NoPlace, unpacked, blocks, many)

    def test_what_is_handed_in_stays_and_what_is_told_is_the_askers_own(self):
        for blocks, many in (([], 0), ([9], 0), ([9], 32), ([9, FULL], 64), ([9, FULL], 50)):
            before = list(blocks)
            told = unpacked(blocks, many)
            asked = list(told)
            self.same(blocks, before)
            told.append(1)
            told[0] = 1 - told[0]
            self.same(unpacked(blocks, many), asked)
            self.same(blocks, before)
            again = unpacked(blocks, many)
            blocks.clear()
            self.same(again, asked)


class Ones(Case):
    def test_ones_in_for_each_upto(self):
        for block in sample_blocks():
            bits = block_bits(block)
            for upto in range(33):
                self.same(ones_in(block, upto), sum(bits[:upto]), (block, upto))

    def test_ones_in_at_the_ends_of_the_range(self):
        for upto in range(33):
            self.same(ones_in(0, upto), 0)
            self.same(ones_in(FULL, upto), upto)

    def test_one_in_for_each_nth(self):
        for block in sample_blocks():
            places = [k for k, bit in enumerate(block_bits(block)) if bit == 1]
            for nth in range(40):
                asked = places[nth] if nth < len(places) else None
                self.same(one_in(block, nth), asked, (block, nth))

    def test_one_in_far_beyond(self):
        for block in sample_blocks():
            for nth in (32, 33, 64, 2 ** 32, 10 ** 30, GREAT):
                self.same(one_in(block, nth), None, (block, nth))

    def test_one_in_at_the_ends_of_the_range(self):
        for nth in range(33):
            self.same(one_in(0, nth), None)
            self.same(one_in(FULL, nth), nth if nth < 32 else None)


class Lows(Case):
    def hold(self, block, nets, start, stop, goal):
        places = [k for k in range(start + 1, stop + 1) if nets[k] <= goal]
        note = (block, start, stop, goal)
        self.same(first_low_in(block, start, stop, goal), places[0] if places else None, note)
        self.same(last_low_in(block, start, stop, goal), places[-1] if places else None, note)

    def test_low_in_for_each_upto(self):
        for block in sample_blocks():
            nets = plain_nets(block)
            for upto in range(1, 33):
                self.same(low_in(block, upto), min(nets[1:upto + 1]), (block, upto))

    def test_low_in_at_the_ends_of_the_range(self):
        # The net of the first 0 bits, which is 0, is not among those asked.
        for upto in range(1, 33):
            self.same(low_in(FULL, upto), 1)
            self.same(low_in(0, upto), -upto)

    def test_each_stretch_and_each_goal(self):
        for block in (0, FULL, FULL // 3, FULL // 3 * 2, 3735928559, 65535):
            nets = plain_nets(block)
            for start in range(33):
                for stop in range(start, 33):
                    for goal in range(min(nets[start:stop + 1]) - 1, max(nets[start:stop + 1]) + 2):
                        self.hold(block, nets, start, stop, goal)

    def test_many_blocks(self):
        for block in sample_blocks():
            nets = plain_nets(block)
            for start, stop in ((0, 32), (0, 1), (0, 31), (1, 32), (31, 32), (7, 20), (15, 16), (3, 30)):
                for goal in range(min(nets) - 1, max(nets) + 2):
                    self.hold(block, nets, start, stop, goal)

    def test_goals_of_many_figures(self):
        for block in sample_blocks():
            for start in range(0, 33, 4):
                for stop in range(start, 33):
                    for goal in (33, 2 ** 32, 10 ** 40, GREAT):
                        first = start + 1 if start < stop else None
                        self.same(first_low_in(block, start, stop, goal), first)
                        self.same(last_low_in(block, start, stop, goal), stop if start < stop else None)
                        self.same(first_low_in(block, start, stop, -goal), None)
                        self.same(last_low_in(block, start, stop, -goal), None)

    def test_start_equal_to_stop(self):
        for block in sample_blocks():
            for start in range(33):
                for goal in (-33, -1, 0, 1, 33, GREAT, -GREAT):
                    self.same(first_low_in(block, start, start, goal), None)
                    self.same(last_low_in(block, start, start, goal), None)


class Look(Case):
    def test_tells_each_block_at_each_asking(self):
        for many in (0, 1, 2, 128, 500):
            source = numbers_from(many)
            blocks = [next(source) for k in range(many)]
            look = look_of(blocks)
            for turn in range(2):
                for number in list(range(many)) + list(reversed(range(many))):
                    self.same(look(number), blocks[number])

    def test_blocks_at_the_ends_of_their_range(self):
        look = look_of([0, FULL])
        self.same((look(0), look(1)), (0, FULL))

    def test_a_later_change_of_the_list_changes_nothing(self):
        blocks = [3, 1, 4]
        look = look_of(blocks)
        blocks[0] = 9
        self.same(look(0), 3)
        blocks.insert(0, 8)
        blocks.pop()
        self.same([look(0), look(1), look(2)], [3, 1, 4])
        blocks.clear()
        self.same([look(2), look(1), look(0)], [4, 1, 3])

    def test_the_list_stays_as_it_was(self):
        blocks = [3, 1, 4]
        look = look_of(blocks)
        look(1)
        self.same(blocks, [3, 1, 4])

    def test_looks_are_of_their_own(self):
        blocks = [3, 1, 4]
        one = look_of(blocks)
        blocks[1] = 7
        other = look_of(blocks)
        empty = look_of([])
        self.same([one(1), other(1), one(1)], [1, 7, 1])
        self.assertTrue(callable(empty))


if __name__ == "__main__":
    unittest.main()
