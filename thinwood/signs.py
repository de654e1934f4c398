"""Rows of signs: for each level a row of bits, which parts the signs by a bit of their ranks.

Within a level the signs that have the same bits at all levels ahead of it stand side by side, so a stretch of them
at one level leads to a stretch at the next one.
"""

from thinwood.blocks import bit_in, bits_of, look_from
from thinwood.errors import NoPlace, NoSign, TooMany
from thinwood.heaps import check_stretch, size_of
from thinwood.rows import (
    bit_at,
    check_nth,
    check_place,
    kept_row,
    last_no_greater,
    nought_place,
    noughts_at,
    one_place,
    ones_at,
)

MOST_SIGNS = 4096


def check_signs(signs):
    if len(signs) > MOST_SIGNS:
        raise TooMany("a row has at most 4,096 signs")
    for sign in signs:
        if not -(10 ** 60) < sign < 10 ** 60:
            raise NoSign("a sign is above -(10 ** 60) and below 10 ** 60")


def kept_signs(signs):
    check_signs(signs)
    kinds = sorted(set(signs))
    aheads = []
    blocks = []
    for bits in level_rows(ranks_among(kinds, signs), len(kinds)):
        row = kept_row(bits)
        aheads.append(row[0][1])
        blocks.extend(row[1])
    return ((len(signs), tuple(kinds), tuple(aheads)), blocks)


def ranks_among(kinds, signs):
    ranks = {}
    for rank, kind in enumerate(kinds):
        ranks[kind] = rank
    return [ranks[sign] for sign in signs]


def level_count(kind_count):
    return size_of(kind_count).bit_length() - 1


def level_rows(ranks, kind_count):
    rows = []
    order = ranks
    # The bit of greatest weight comes first.
    for k in range(level_count(kind_count) - 1, -1, -1):
        bits = [bit_in(rank, k) for rank in order]
        rows.append(bits)
        order = parted(order, bits)
    return rows


def parted(order, bits):
    noughts = [one for one, bit in zip(order, bits) if bit == 0]
    ones = [one for one, bit in zip(order, bits) if bit == 1]
    return noughts + ones


def ranks_of(rows, many):
    # The bits of a level stand in the order that the level ahead leaves, so the places are parted as the signs were.
    ranks = [0] * many
    order = list(range(many))
    for bits in rows:
        for at, bit in zip(order, bits):
            ranks[at] = 2 * ranks[at] + bit
        order = parted(order, bits)
    return ranks


def levels_of(tables, look):
    levels = []
    first = 0
    for ahead in tables[2]:
        levels.append(((tables[0], ahead), look_from(look, first)))
        first = first + len(ahead) - 1
    return levels


def place_below(level, at, bit):
    # At the next level as many signs with this bit stand ahead of the told place as here ahead of this one; there
    # the ones stand behind all noughts.
    row = level[0]
    look = level[1]
    if bit == 0:
        return noughts_at(row, look, at)
    return nought_count(row) + ones_at(row, look, at)


def place_above(level, at, bit):
    row = level[0]
    look = level[1]
    if bit == 0:
        return nought_place(row, look, at)
    return one_place(row, look, at - nought_count(row))


def nought_count(row):
    return row[0] - row[1][-1]


def stretch_below(level, stretch, bit):
    return (place_below(level, stretch[0], bit), place_below(level, stretch[1], bit))


def length_of(stretch):
    return stretch[1] - stretch[0]


def stretch_of_rank(levels, bits, stretch):
    found = stretch
    for level, bit in zip(levels, bits):
        found = stretch_below(level, found, bit)
    return found


def rank_bits(rank, levels):
    return list(reversed(bits_of(rank, len(levels))))


def kinds_below(kinds, sign):
    if len(kinds) == 0 or kinds[0] >= sign:
        return 0
    return last_no_greater(kinds, sign - 1) + 1


def rank_of(kinds, sign):
    rank = kinds_below(kinds, sign)
    if rank < len(kinds) and kinds[rank] == sign:
        return rank
    return None


def sign_at(tables, look, at):
    check_place(at, tables[0] - 1)
    rank = 0
    place = at
    for level in levels_of(tables, look):
        bit = bit_at(level[0], level[1], place)
        rank = 2 * rank + bit
        place = place_below(level, place, bit)
    return tables[1][rank]


def signs_ahead(tables, look, sign, at):
    check_place(at, tables[0])
    rank = rank_of(tables[1], sign)
    if rank is None:
        return 0
    levels = levels_of(tables, look)
    return length_of(stretch_of_rank(levels, rank_bits(rank, levels), (0, at)))


def sign_place(tables, look, sign, nth):
    rank = rank_of(tables[1], sign)
    if rank is None:
        raise NoPlace("no place bears the sign")
    levels = levels_of(tables, look)
    bits = rank_bits(rank, levels)
    stretch = stretch_of_rank(levels, bits, (0, tables[0]))
    check_nth(nth, length_of(stretch))
    place = stretch[0] + nth
    for level, bit in reversed(list(zip(levels, bits))):
        place = place_above(level, place, bit)
    return place


def between(tables, look, start, stop, low, high):
    check_stretch(tables[0], start, stop)
    if high <= low:
        return 0
    return below(tables, look, (start, stop), high) - below(tables, look, (start, stop), low)


def below(tables, look, stretch, sign):
    rank = kinds_below(tables[1], sign)
    # A rank beyond the last one may have more bits than there are levels.
    if rank == len(tables[1]):
        return length_of(stretch)
    levels = levels_of(tables, look)
    lesser = 0
    rest = stretch
    for level, bit in zip(levels, rank_bits(rank, levels)):
        if bit == 1:
            lesser = lesser + length_of(stretch_below(level, rest, 0))
        rest = stretch_below(level, rest, bit)
    return lesser


def so_manieth(tables, look, start, stop, nth):
    check_stretch(tables[0], start, stop)
    check_nth(nth, stop - start)
    rank = 0
    ahead = nth
    stretch = (start, stop)
    for level in levels_of(tables, look):
        noughts = length_of(stretch_below(level, stretch, 0))
        bit = 0
        if ahead >= noughts:
            bit = 1
            ahead = ahead - noughts
        rank = 2 * rank + bit
        stretch = stretch_below(level, stretch, bit)
    return tables[1][rank]


def unlike(tables, look, start, stop):
    check_stretch(tables[0], start, stop)
    found = filled([(0, (start, stop))])
    for level in levels_of(tables, look):
        found = split_up(level, found)
    return [(tables[1][rank], length_of(stretch)) for rank, stretch in found]


def split_up(level, found):
    parts = []
    for rank, stretch in found:
        parts.append((2 * rank, stretch_below(level, stretch, 0)))
        parts.append((2 * rank + 1, stretch_below(level, stretch, 1)))
    return filled(parts)


def filled(parts):
    # A stretch without places leads to no sign, so no block is looked at for it.
    return [(rank, stretch) for rank, stretch in parts if length_of(stretch) > 0]
