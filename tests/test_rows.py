import inspect
import unittest

from tests.helper import GREAT, LENGTHS, Case, WatchedLook, mixed_row, plain_blocks, plain_tables, sample_rows
from thinwood import rows as module
from thinwood.blocks import look_of
from thinwood.errors import NoBit, NoPlace, TooMany
from thinwood.rows import bit_at, kept_row, nought_place, noughts_at, one_place, ones_at

QUESTIONS = (bit_at, ones_at, noughts_at, one_place, nought_place)


def plain_answers(bits):
    """For each question its answers, in order, from one walk over the row."""
    ones = []
    noughts = []
    ones_ahead = [0]
    for at, bit in enumerate(bits):
        (ones if bit == 1 else noughts).append(at)
        ones_ahead.append(len(ones))
    noughts_ahead = [at - many for at, many in enumerate(ones_ahead)]
    return {
        bit_at: bits,
        ones_at: ones_ahead,
        noughts_at: noughts_ahead,
        one_place: ones,
        nought_place: noughts,
    }


class Interface(Case):
    def test_names_and_arguments(self):
        told = {
            "kept_row": ["bits"],
            "bit_at": ["tables", "look", "at"],
            "ones_at": ["tables", "look", "at"],
            "noughts_at": ["tables", "look", "at"],
            "one_place": ["tables", "look", "nth"],
            "nought_place": ["tables", "look", "nth"],
        }
        for name, arguments in told.items():
            self.assertEqual(arguments, list(inspect.signature(getattr(module, name)).parameters), name)


class KeptRow(Case):
    def test_tables_and_blocks_as_the_plain_walk_tells(self):
        for bits in sample_rows():
            self.same(kept_row(bits), (plain_tables(bits), plain_blocks(bits)))

    def test_written_out(self):
        self.same(kept_row([]), ((0, (0,)), []))
        self.same(kept_row([0]), ((1, (0, 0)), [0]))
        self.same(kept_row([1]), ((1, (0, 1)), [1]))
        self.same(kept_row([1] * 33), ((33, (0, 32, 33)), [2 ** 32 - 1, 1]))
        self.same(kept_row([0, 1] * 32), ((64, (0, 16, 32)), [2863311530, 2863311530]))

    def test_room(self):
        for bits in sample_rows():
            tables, blocks = kept_row(bits)
            self.same(len(tables[1]), (len(bits) + 31) // 32 + 1)
            self.assertTrue(all(0 <= number <= len(bits) for number in tables[1]))

    def test_refuses_as_packed_does(self):
        for many in (4097, 4098, 6000):
            self.refused(TooMany, kept_row, [1] * many)
        for number in (-1, 2, 3, 2 ** 32, GREAT, -GREAT):
            for many in (1, 32, 33, 4096):
                self.refused(NoBit, kept_row, [number] + [0] * (many - 1))
                self.refused(NoBit, kept_row, [1] * (many - 1) + [number])
            self.refused(TooMany, kept_row, [number] + [0] * 4096)
            self.refused(TooMany, kept_row, [0] * 4096 + [number])

    def test_the_bits_stay_as_they_were(self):
        for bits in sample_rows():
            before = list(bits)
            kept_row(bits)
            self.same(bits, before)

    def test_the_told_list_is_the_askers_own(self):
        for many in LENGTHS:
            bits = mixed_row(many, 21)
            asked = (plain_tables(bits), plain_blocks(bits))
            told = kept_row(bits)
            told[1].append(1)
            told[1][0] = 77
            self.same(kept_row(bits), asked)
            again = kept_row(bits)
            bits.append(1)
            bits[0] = 1 - bits[0]
            self.same(again, asked)


class Questions(Case):
    def test_as_the_plain_walk_tells_with_one_block_at_most(self):
        for bits in sample_rows():
            tables, blocks = kept_row(bits)
            for question, answers in plain_answers(bits).items():
                for asked_for, answer in enumerate(answers):
                    look = WatchedLook(blocks)
                    told = question(tables, look, asked_for)
                    if told != answer or type(told) is not int or len(look.seen) > 1:
                        self.fail((question.__name__, len(bits), asked_for, told, answer, look.seen))

    def test_beyond_the_last_and_below_nought(self):
        for bits in sample_rows():
            tables, blocks = kept_row(bits)
            for question, answers in plain_answers(bits).items():
                beyond = len(answers)
                for asked_for in (beyond, beyond + 1, beyond + 31, beyond + 32, 5000, 2 ** 32, 10 ** 40, GREAT):
                    self.refused(NoPlace, question, tables, WatchedLook(blocks), asked_for)
                for asked_for in (-1, -2, -31, -32, -33, -len(bits), -len(bits) - 1, -5000, -(2 ** 32), -GREAT):
                    if asked_for < 0:
                        self.refused(NoPlace, question, tables, WatchedLook(blocks), asked_for)

    def test_a_refusal_looks_at_one_block_at_most(self):
        for many in (0, 1, 33, 4096):
            tables, blocks = kept_row(mixed_row(many, 4))
            for question in QUESTIONS:
                for asked_for in (-1, -33, many + 1, GREAT):
                    look = WatchedLook(blocks)
                    self.refused(NoPlace, question, tables, look, asked_for)
                    self.assertLessEqual(len(look.seen), 1)

    def test_a_row_of_no_bits(self):
        tables, blocks = kept_row([])
        look = WatchedLook(blocks)
        self.same(ones_at(tables, look, 0), 0)
        self.same(noughts_at(tables, look, 0), 0)
        for question in (bit_at, one_place, nought_place):
            self.refused(NoPlace, question, tables, look, 0)

    def test_the_ends_of_a_row(self):
        for many in LENGTHS[1:]:
            bits = [1] + [0] * (many - 1)
            tables, blocks = kept_row(bits)
            look = WatchedLook(blocks)
            self.same(bit_at(tables, look, 0), 1)
            self.same(bit_at(tables, look, many - 1), bits[-1])
            self.same((ones_at(tables, look, 0), noughts_at(tables, look, 0)), (0, 0))
            self.same((ones_at(tables, look, many), noughts_at(tables, look, many)), (1, many - 1))
            self.same(one_place(tables, look, 0), 0)

    def test_bits_that_are_none_of_the_rows_are_no_noughts(self):
        for many in (1, 31, 33, 63, 4095):
            tables, blocks = kept_row([1] * many)
            self.refused(NoPlace, nought_place, tables, WatchedLook(blocks), 0)
            tables, blocks = kept_row([0] * many)
            self.same(nought_place(tables, WatchedLook(blocks), many - 1), many - 1)
            self.refused(NoPlace, nought_place, tables, WatchedLook(blocks), many)
            self.refused(NoPlace, bit_at, tables, WatchedLook(blocks), many)

    def test_in_any_order_and_as_often_as_you_like(self):
        bits = mixed_row(200, 6)
        tables, blocks = kept_row(bits)
        look = look_of(blocks)
        answers = plain_answers(bits)
        for step in (7, 11, 13):
            for turn in range(400):
                for question in QUESTIONS:
                    asked_for = turn * step % len(answers[question])
                    self.same(question(tables, look, asked_for), answers[question][asked_for])

    def test_rows_with_the_same_tables_are_told_apart(self):
        # These differ behind the look alone.
        one = [1, 0, 1, 0, 1] * 20
        other = [0, 1] * 2 + [1] + [1, 0, 1, 0, 1] * 19
        self.assertEqual(kept_row(one)[0], kept_row(other)[0])
        for bits in (one, other, one):
            tables, blocks = kept_row(bits)
            look = look_of(blocks)
            for question, answers in plain_answers(bits).items():
                for asked_for, answer in enumerate(answers):
                    self.same(question(tables, look, asked_for), answer)

    def test_changed_lists_change_no_later_answer(self):
        for many in (1, 31, 32, 33, 100):
            bits = mixed_row(many, 9)
            answers = {question: list(told) for question, told in plain_answers(bits).items()}
            tables, blocks = kept_row(bits)
            look = look_of(blocks)
            for k in range(len(blocks)):
                blocks[k] = 2 ** 32 - 1 - blocks[k]
            blocks.append(0)
            for k in range(many):
                bits[k] = 1 - bits[k]
            bits.append(1)
            for question in QUESTIONS:
                for asked_for, answer in enumerate(answers[question]):
                    self.same(question(tables, look, asked_for), answer)

    def test_questions_change_nothing_that_is_handed_in(self):
        bits = mixed_row(100, 10)
        tables, blocks = kept_row(bits)
        look = look_of(blocks)
        for question, answers in plain_answers(bits).items():
            for asked_for in range(len(answers)):
                question(tables, look, asked_for)
        self.same((tables, blocks), (plain_tables(bits), plain_blocks(bits)))


if __name__ == "__main__":
    unittest.main()
