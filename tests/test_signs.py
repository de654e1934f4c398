import functools
import inspect
import unittest

from tests.helper import (
    GREAT,
    SIGN_BOUND,
    Case,
    PlainSigns,
    WatchedLook,
    mixed_signs,
    numbers_from,
    sample_signs,
)
from thinwood import signs as module
from thinwood.blocks import look_of
from thinwood.errors import NoPlace, NoSign, TooMany
from thinwood.signs import between, kept_signs, sign_at, sign_place, signs_ahead, so_manieth, unlike

# Just so many kinds as a number of levels tells apart, and one more and one less.
KIND_COUNTS = (2, 3, 4, 5, 7, 8, 9, 16, 17, 32, 33, 64, 65)
FEW = (1, 2, 3, 5, 9, 31, 32, 33, 40, 64, 66)
MANY = (500, 1025, 4095, 4096)
MANY_COUNTS = (2, 3, 5, 32, 33, 255, 256, 257, 1024, 1025, 2048, 2049, 4000)


@functools.cache
def few_signs():
    return [PlainSigns(signs) for signs in sample_signs(FEW, KIND_COUNTS)]


@functools.cache
def many_signs():
    return [PlainSigns(signs) for signs in sample_signs(MANY, MANY_COUNTS) if signs]


def places_of(row):
    """All places where there are few; else some all over, the ends of blocks and the row's among them."""
    if row.many <= FEW[-1]:
        return list(range(row.many + 1))
    near = [0, 1, 31, 32, 33, 63, 64, 65, row.many // 32 * 32, row.many // 32 * 32 - 1, row.many - 1, row.many]
    source = numbers_from(row.many + len(row.kinds))
    return sorted(set(near + [next(source) % row.many for k in range(6)]))


def stretches_of(row):
    places = places_of(row)
    if row.many <= 9:
        return [(start, stop) for start in places for stop in places if start <= stop]
    near = [(start, stop) for start, stop in zip(places, places[1:])] + [(start, start) for start in places[::5]]
    return near + [(0, row.many), (1, row.many - 1), (row.many // 3, row.many // 2), (31, min(64, row.many))]


def asked_signs(row, most):
    """Signs of the row, all over, and numbers that are none."""
    return row.kinds[::max(len(row.kinds) // most, 1)] + row.kinds[-1:] + row.no_signs()


class Interface(Case):
    def test_names_and_arguments(self):
        told = {
            "kept_signs": ["signs"],
            "sign_at": ["tables", "look", "at"],
            "signs_ahead": ["tables", "look", "sign", "at"],
            "sign_place": ["tables", "look", "sign", "nth"],
            "between": ["tables", "look", "start", "stop", "low", "high"],
            "so_manieth": ["tables", "look", "start", "stop", "nth"],
            "unlike": ["tables", "look", "start", "stop"],
        }
        for name, arguments in told.items():
            self.assertEqual(arguments, list(inspect.signature(getattr(module, name)).parameters), name)


class KeptSigns(Case):
    def test_tables_and_blocks_as_the_plain_walk_tells(self):
        for row in few_signs() + many_signs():
            self.same(kept_signs(row.signs), (row.tables, row.blocks))

    def test_written_out(self):
        self.same(kept_signs([]), ((0, (), ()), []))
        self.same(kept_signs([-4]), ((1, (-4,), ()), []))
        self.same(kept_signs([9] * 40), ((40, (9,), ()), []))
        self.same(kept_signs([8, 3, 8]), ((3, (3, 8), ((0, 2),)), [5]))
        # Ranks 2, 0, 1, 2 with the bits 10, 00, 01, 10: level 1 has those of ranks 0, 1, 2, 2.
        self.same(kept_signs([70, -5, 0, 70]), ((4, (-5, 0, 70), ((0, 2), (0, 1))), [9, 2]))
        # Ranks 3, 1, 4, 2, 0: the levels have 3 1 4 2 0, 3 1 2 0 4, 1 0 4 3 2.
        self.same(kept_signs([33, 11, 44, 22, 0]), ((5, (0, 11, 22, 33, 44), ((0, 1), (0, 2), (0, 2))), [4, 5, 9]))

    def test_levels_by_the_number_of_kinds(self):
        for kinds, levels in ((0, 0), (1, 0), (2, 1), (3, 2), (4, 2), (5, 3), (8, 3), (9, 4), (16, 4), (17, 5),
                              (1024, 10), (1025, 11), (2048, 11), (2049, 12), (4095, 12), (4096, 12)):
            for signs in (list(range(kinds)), list(range(-kinds, 0)) * 2):
                if len(signs) <= 4096:
                    tables, blocks = kept_signs(signs)
                    self.same(len(tables[2]), levels)
                    self.same(len(tables[1]), kinds)
                    self.same(len(blocks), levels * ((len(signs) + 31) // 32))

    def test_signs_just_inside_the_bounds(self):
        least = -(10 ** 60) + 1
        greatest = 10 ** 60 - 1
        self.same(kept_signs([greatest, least]), ((2, (least, greatest), ((0, 1),)), [1]))

    def test_too_many(self):
        self.assertEqual(4096, kept_signs([5] * 4096)[0][0])
        for many in (4097, 4098, 5000, 8192):
            self.refused(TooMany, kept_signs, [5] * many)
            self.refused(TooMany, kept_signs, list(range(many)))

    def test_no_sign(self):
        for sign in (SIGN_BOUND, -SIGN_BOUND, SIGN_BOUND + 1, -SIGN_BOUND - 1, 10 ** 61, -(10 ** 61), GREAT, -GREAT):
            self.refused(NoSign, kept_signs, [sign])
            for many in (2, 33, 4096):
                self.refused(NoSign, kept_signs, [sign] + [3] * (many - 1))
                self.refused(NoSign, kept_signs, [3] * (many - 1) + [sign])
            self.refused(NoSign, kept_signs, [sign] * 4096)

    def test_too_many_goes_first(self):
        for sign in (SIGN_BOUND, -SIGN_BOUND, GREAT):
            self.refused(TooMany, kept_signs, [sign] + [0] * 4096)
            self.refused(TooMany, kept_signs, [0] * 4096 + [sign])
            self.refused(TooMany, kept_signs, [sign] * 4097)

    def test_the_signs_stay_as_they_were(self):
        for row in few_signs():
            signs = list(row.signs)
            kept_signs(signs)
            self.same(signs, row.signs)

    def test_the_told_list_is_the_askers_own(self):
        for many in (0, 1, 5, 33, 100):
            signs = mixed_signs(many, 9, many)
            row = PlainSigns(signs)
            told = kept_signs(signs)
            told[1].append(1)
            told[1][0] = 77
            self.same(kept_signs(signs), (row.tables, row.blocks))
            again = kept_signs(signs)
            signs.append(10 ** 59)
            signs[0] = 11
            self.same(again, (row.tables, row.blocks))


class Questions(Case):
    def hold(self, row, question, asked_for, answer, most):
        seen = self.answered(row, question, asked_for, answer, most * row.levels)
        long = (row.many + 31) // 32
        for level in {number // long for number in seen}:
            self.assertLessEqual(len([number for number in seen if number // long == level]), most, question.__name__)

    def hold_signs(self, row, places):
        for at in places:
            if at < row.many:
                self.hold(row, sign_at, (at,), row.signs[at], 1)

    def hold_ahead(self, row, places, signs):
        for at in places:
            for sign in signs:
                self.hold(row, signs_ahead, (sign, at), row.signs[:at].count(sign), 2)

    def hold_places(self, row, signs):
        for sign in signs:
            places = [at for at, other in enumerate(row.signs) if other == sign]
            picked = {0, 1, 2, len(places) // 2, len(places) - 2, len(places) - 1} & set(range(len(places)))
            for nth in range(len(places)) if row.many <= FEW[-1] else sorted(picked):
                self.hold(row, sign_place, (sign, nth), places[nth], 4)

    def hold_between(self, row, stretch, lows):
        start, stop = stretch
        signs = row.signs[start:stop]
        for low in lows:
            for high in lows:
                answer = len([sign for sign in signs if low <= sign < high])
                self.hold(row, between, (start, stop, low, high), answer, 4)

    def hold_sorted(self, row, stretch):
        start, stop = stretch
        signs = sorted(row.signs[start:stop])
        many = len(signs)
        picked = range(many) if many <= 40 else (0, 1, many // 3, many // 2, many - 2, many - 1)
        for nth in picked:
            self.hold(row, so_manieth, (start, stop, nth), signs[nth], 2)

    def hold_unlike(self, row, stretch):
        start, stop = stretch
        signs = row.signs[start:stop]
        counts = {}
        for sign in sorted(signs):
            counts[sign] = counts.get(sign, 0) + 1
        self.hold(row, unlike, stretch, list(counts.items()), 2 * len(counts))

    def test_few_signs(self):
        for row in few_signs():
            places = places_of(row)
            signs = asked_signs(row, 12)
            self.hold_signs(row, places)
            self.hold_ahead(row, places[::max(len(places) // 12, 1)] + places[-1:], signs)
            self.hold_places(row, row.kinds)
            for stretch in stretches_of(row):
                self.hold_sorted(row, stretch)
                self.hold_unlike(row, stretch)
            for stretch in stretches_of(row)[::7] + [(0, row.many)]:
                self.hold_between(row, stretch, signs[::max(len(signs) // 7, 1)])

    def test_many_signs(self):
        for row in many_signs():
            places = places_of(row)
            signs = asked_signs(row, 3)
            self.hold_signs(row, places)
            self.hold_ahead(row, places[::4] + places[-1:], signs[::4])
            self.hold_places(row, row.kinds[::max(len(row.kinds) // 4, 1)] + row.kinds[-1:])
            for stretch in stretches_of(row)[::3] + [(0, row.many)]:
                self.hold_sorted(row, stretch)
            for stretch in stretches_of(row)[::6] + [(0, row.many)]:
                self.hold_unlike(row, stretch)
                self.hold_between(row, stretch, signs[::6])

    def test_every_answer_of_some_small_rows(self):
        rows = [[3, 1, 2], [0, 0, 1, 0], [5, -5, 5, 0, -5], [2, 7, 1, 8, 2, 8, 1], [9, 8, 7, 6, 5, 4, 3, 2, 1]]
        for row in [PlainSigns(signs) for signs in rows]:
            asked = sorted(set(row.kinds + row.no_signs()))
            self.hold_signs(row, range(row.many))
            self.hold_ahead(row, range(row.many + 1), asked)
            self.hold_places(row, row.kinds)
            for start in range(row.many + 1):
                for stop in range(start, row.many + 1):
                    self.hold_between(row, (start, stop), asked)
                    self.hold_sorted(row, (start, stop))
                    self.hold_unlike(row, (start, stop))

    def test_a_row_of_no_signs(self):
        row = PlainSigns([])
        for sign in (0, 5, -SIGN_BOUND, GREAT):
            self.hold(row, signs_ahead, (sign, 0), 0, 0)
            self.hold(row, between, (0, 0, -GREAT, sign), 0, 0)
            self.refused(NoPlace, sign_place, row.tables, WatchedLook([]), sign, 0)
        self.hold(row, unlike, (0, 0), [], 0)
        self.refused(NoPlace, sign_at, row.tables, WatchedLook([]), 0)
        self.refused(NoPlace, so_manieth, row.tables, WatchedLook([]), 0, 0, 0)

    def test_a_row_of_one_kind_has_no_block(self):
        for many in (1, 31, 32, 33, 4096):
            row = PlainSigns([-6] * many)
            self.assertEqual([], row.blocks)
            for at in (0, many // 2, many - 1):
                self.hold(row, sign_at, (at,), -6, 0)
                self.hold(row, signs_ahead, (-6, at), at, 0)
                self.hold(row, sign_place, (-6, at), at, 0)
                self.hold(row, so_manieth, (0, many, at), -6, 0)
                self.hold(row, between, (at, many, -6, -5), many - at, 0)
                self.hold(row, between, (at, many, -7, -6), 0, 0)
                self.hold(row, unlike, (at, many), [(-6, many - at)], 0)
            for sign in (-7, -5, 0, GREAT, -GREAT):
                self.hold(row, signs_ahead, (sign, many), 0, 0)

    def test_stretches_without_places(self):
        for row in few_signs():
            for at in {0, 1, 31, 32, row.many // 2, row.many} & set(range(row.many + 1)):
                self.hold(row, unlike, (at, at), [], 0)
                self.hold(row, between, (at, at, -GREAT, GREAT), 0, 4)
                self.refused(NoPlace, so_manieth, row.tables, WatchedLook(row.blocks), at, at, 0)

    def test_a_low_sign_that_is_not_below_the_high_one(self):
        for row in few_signs():
            for sign in row.kinds[:3] + row.kinds[-3:] + [0, GREAT, -GREAT]:
                for step in (0, 1, 2, SIGN_BOUND, GREAT - 1):
                    self.hold(row, between, (0, row.many, sign, sign - step), 0, 4)

    def test_below_and_above_all_signs(self):
        for row in few_signs():
            for stretch in ((0, row.many), (row.many // 3, row.many // 2)):
                long = stretch[1] - stretch[0]
                for low in (-GREAT, -SIGN_BOUND):
                    for high in (SIGN_BOUND, GREAT):
                        self.hold(row, between, stretch + (low, high), long, 4)
                self.hold(row, between, stretch + (-GREAT, -SIGN_BOUND + 1), 0, 4)
                self.hold(row, between, stretch + (SIGN_BOUND, GREAT), 0, 4)

    def test_in_any_order_and_as_often_as_you_like(self):
        row = PlainSigns(mixed_signs(100, 11, 6))
        look = look_of(row.blocks)
        for step in (7, 11, 13):
            for turn in range(200):
                at = turn * step % 100
                stop = 100 - turn * turn % (100 - at)
                sign = row.kinds[turn % len(row.kinds)]
                self.same(sign_at(row.tables, look, at), row.signs[at])
                self.same(signs_ahead(row.tables, look, sign, at), row.signs[:at].count(sign))
                self.same(so_manieth(row.tables, look, at, stop, 0), min(row.signs[at:stop]))
                self.refused(NoPlace, sign_at, row.tables, look, 100)

    def test_rows_with_the_same_tables_are_told_apart(self):
        # These differ behind the look alone.
        one = [1, 0, 2, 1, 0, 2, 3]
        other = [3, 2, 0, 1, 2, 0, 1]
        self.assertEqual(kept_signs(one)[0], kept_signs(other)[0])
        for signs in (one, other, one):
            tables, blocks = kept_signs(signs)
            look = look_of(blocks)
            self.same([sign_at(tables, look, at) for at in range(7)], signs)
            self.same([so_manieth(tables, look, at, at + 1, 0) for at in range(7)], signs)

    def test_answers_agree_with_each_other(self):
        for row in few_signs():
            look = look_of(row.blocks)
            for at in range(0, row.many, 3):
                sign = sign_at(row.tables, look, at)
                nth = signs_ahead(row.tables, look, sign, at)
                self.same(sign_place(row.tables, look, sign, nth), at)
                self.same(between(row.tables, look, 0, at, sign, sign + 1), nth)
                told = unlike(row.tables, look, at, row.many)
                self.same(sum(often for other, often in told), row.many - at)
                self.same(told[0][0], so_manieth(row.tables, look, at, row.many, 0))
                self.same(told[-1][0], so_manieth(row.tables, look, at, row.many, row.many - at - 1))


class Refusals(Case):
    def rows(self):
        for signs in ([], [4], [4] * 33, [1, 2, 3], mixed_signs(33, 5, 1), mixed_signs(64, 64, 2), list(range(4096))):
            yield PlainSigns(signs)

    def beyond(self, most):
        return [most + 1, most + 2, most + 31, most + 32, most + 33, 2 * most + 2, 5000, 2 ** 32, 10 ** 40, GREAT]

    def below(self, many):
        return [-1, -2, -31, -32, -33, -many - 1, -5000, -(2 ** 32), -(10 ** 40), -GREAT]

    def test_places(self):
        for row in self.rows():
            look = WatchedLook(row.blocks)
            for at in self.beyond(row.many - 1) + self.below(row.many):
                self.refused(NoPlace, sign_at, row.tables, look, at)
            for at in self.beyond(row.many) + self.below(row.many):
                for sign in row.kinds[:2] + [0, 10 ** 59 + 1, GREAT, -GREAT]:
                    self.refused(NoPlace, signs_ahead, row.tables, look, sign, at)

    def test_counts(self):
        for row in self.rows():
            look = WatchedLook(row.blocks)
            for sign in row.kinds[:3] + row.kinds[-3:]:
                often = row.signs.count(sign)
                for nth in self.beyond(often - 1) + self.below(often):
                    self.refused(NoPlace, sign_place, row.tables, look, sign, nth)
            for sign in row.no_signs():
                for nth in [0, 1] + self.beyond(0) + self.below(0):
                    self.refused(NoPlace, sign_place, row.tables, look, sign, nth)

    def test_stretches(self):
        for row in self.rows():
            look = WatchedLook(row.blocks)
            many = row.many
            wrong = [(0, stop) for stop in self.beyond(many)] + [(start, many) for start in self.below(many)]
            wrong += [(stop, stop) for stop in self.beyond(many)] + [(start, start) for start in self.below(many)]
            wrong += [(1, 0), (many, many - 1), (many + 1, many), (many, 0), (0, -1), (GREAT, -GREAT), (-GREAT, GREAT)]
            for start, stop in wrong:
                if 0 <= start <= stop <= many:
                    continue
                self.refused(NoPlace, unlike, row.tables, look, start, stop)
                for nth in (0, 1, -1, stop - start - 1):
                    self.refused(NoPlace, so_manieth, row.tables, look, start, stop, nth)
                for low, high in ((0, 5), (5, 5), (5, 0), (-GREAT, GREAT), (GREAT, -GREAT)):
                    self.refused(NoPlace, between, row.tables, look, start, stop, low, high)

    def test_so_manieth_beyond_the_stretch(self):
        for row in self.rows():
            look = WatchedLook(row.blocks)
            for start, stop in ((0, row.many), (row.many // 2, row.many), (row.many // 3, row.many // 2), (0, 0)):
                for nth in self.beyond(stop - start - 1) + self.below(stop - start):
                    self.refused(NoPlace, so_manieth, row.tables, look, start, stop, nth)

    def test_refusals_look_at_no_more_than_told(self):
        row = PlainSigns(mixed_signs(2000, 40, 3))
        asked = (
            (sign_at, (2000,), 1), (sign_at, (-1,), 1),
            (signs_ahead, (0, 2001), 2), (signs_ahead, (0, -1), 2),
            (sign_place, (row.kinds[3], 2000), 4), (sign_place, (row.kinds[3], -1), 4), (sign_place, (GREAT, 0), 4),
            (between, (0, 2001, 0, 9), 4), (between, (5, 4, 0, 9), 4),
            (so_manieth, (0, 2001, 0), 2), (so_manieth, (0, 90, 90), 2), (so_manieth, (0, 90, -1), 2),
            (unlike, (0, 2001), 0), (unlike, (5, 4), 0),
        )
        for question, asked_for, most in asked:
            look = WatchedLook(row.blocks)
            self.refused(NoPlace, question, row.tables, look, *asked_for)
            self.assertLessEqual(len(look.seen), most * row.levels, question.__name__)


class Own(Case):
    def answers(self, tables, look, many):
        return [
            [sign_at(tables, look, at) for at in range(many)],
            [signs_ahead(tables, look, 0, at) for at in range(many + 1)],
            [sign_place(tables, look, tables[1][0], 0), sign_place(tables, look, tables[1][-1], 0)],
            [between(tables, look, at, many, -2, 2) for at in range(many)],
            [so_manieth(tables, look, 0, many, nth) for nth in range(many)],
            [unlike(tables, look, at, many) for at in range(many)],
        ]

    def test_changed_lists_change_no_later_answer_and_questions_change_nothing(self):
        for many in (1, 2, 5, 32, 33, 70):
            for count in (1, 2, 6, 40):
                signs = mixed_signs(many, count, many)
                row = PlainSigns(signs)
                asked = self.answers(row.tables, look_of(row.blocks), many)
                tables, blocks = kept_signs(signs)
                look = look_of(blocks)
                blocks.reverse()
                blocks.append(5)
                signs[0] = 99
                signs.append(4)
                self.same(self.answers(tables, look, many), asked)
                self.same(tables, row.tables)
                self.same(blocks, row.blocks[::-1] + [5])
                self.same(signs, [99] + row.signs[1:] + [4])

    def test_a_told_list_of_unlike_signs_is_the_askers_own(self):
        row = PlainSigns(mixed_signs(50, 5, 8))
        look = look_of(row.blocks)
        for stretch in ((0, 50), (3, 20), (7, 7)):
            told = unlike(row.tables, look, *stretch)
            kept = list(told)
            told.append((1, 1))
            told[0] = None
            self.same(unlike(row.tables, look, *stretch), kept)


if __name__ == "__main__":
    unittest.main()
