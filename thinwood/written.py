"""Rows, trees, rows of signs and stores written as octets, and read again."""

from thinwood.blocks import BLOCK_BITS, look_of, unpacked
from thinwood.errors import NoOctets, WoodError
from thinwood.octets import number_of, octets_of
from thinwood.rows import kept_row
from thinwood.shapes import depths_of, kept_tree
from thinwood.signs import kept_signs, level_count, ranks_of
from thinwood.stores import parts_of, words_of

ROW = 1
TREE = 2
SIGNS = 3
STORE = 4

# How many octets a count, a block and a kind of sign are written as.
COUNT_OCTETS = 2
BLOCK_OCTETS = 4
KIND_OCTETS = 26


def numbers_octets(numbers, size):
    octets = []
    for number in numbers:
        octets.extend(octets_of(number, size))
    return octets


def bits_octets(blocks, ahead):
    return numbers_octets(blocks, BLOCK_OCTETS) + numbers_octets(ahead, COUNT_OCTETS)


def row_octets(bits):
    kept = kept_row(bits)
    return [ROW] + octets_of(len(bits), COUNT_OCTETS) + bits_octets(kept[1], kept[0][1])


def tree_octets(depths):
    kept = kept_tree(depths)
    tables = kept[0]
    blocks = kept[1]
    # The second half of a heap's nodes bears the numbers of which it is made.
    first = len(tables[2]) // 2
    lows = tables[2][first:first + len(blocks)]
    count = octets_of(tables[0], COUNT_OCTETS)
    return [TREE] + count + bits_octets(blocks, tables[1]) + numbers_octets(lows, COUNT_OCTETS)


def signs_octets(signs):
    kept = kept_signs(signs)
    kinds = kept[0][1]
    octets = [SIGNS] + numbers_octets([len(signs), len(kinds)], COUNT_OCTETS)
    octets.extend(numbers_octets([kind + 10 ** 60 for kind in kinds], KIND_OCTETS))
    first = 0
    for ahead in kept[0][2]:
        behind = first + len(ahead) - 1
        octets.extend(bits_octets(kept[1][first:behind], ahead))
        first = behind
    return octets


def store_octets(words):
    parts = parts_of(words)
    return [STORE] + tree_octets(parts[0]) + signs_octets(parts[1]) + row_octets(parts[2])


def read_row(octets):
    return read_as(octets, told_bits, row_octets)


def read_tree(octets):
    return read_as(octets, told_depths, tree_octets)


def read_signs(octets):
    return read_as(octets, told_signs, signs_octets)


def read_store(octets):
    return read_as(octets, told_words, store_octets)


def opened_tree(octets):
    kept = kept_tree(read_tree(octets))
    return (kept[0], look_of(kept[1]))


def read_as(octets, tell, write):
    # What is told is written again, so nothing is taken but what is written of it; the tellers need not check much.
    check_octets(octets)
    try:
        told = tell(octets)
        again = write(told)
    except WoodError:
        raise NoOctets("nothing that may be written is written so") from None
    if again != octets:
        raise NoOctets("what is read is written otherwise")
    return told


def check_octets(octets):
    for octet in octets:
        if not 0 <= octet <= 255:
            raise NoOctets("an octet is from 0 to 255")


def number_at(octets, at, size):
    # A great count with few octets behind it is given up at once.
    if at + size > len(octets):
        raise NoOctets("the octets end too soon")
    return number_of(octets[at:at + size])


def numbers_at(octets, at, size, many):
    return [number_at(octets, at + size * k, size) for k in range(many)]


def block_total(many):
    return (many + BLOCK_BITS - 1) // BLOCK_BITS


def bits_at(octets, at, many):
    return unpacked(numbers_at(octets, at, BLOCK_OCTETS, block_total(many)), many)


def told_bits(octets):
    return bits_at(octets, 1 + COUNT_OCTETS, number_at(octets, 1, COUNT_OCTETS))


def told_depths(octets):
    return depths_of(told_bits(octets))


def told_signs(octets):
    counts = numbers_at(octets, 1, COUNT_OCTETS, 2)
    many = counts[0]
    at = 1 + 2 * COUNT_OCTETS
    kinds = [number - 10 ** 60 for number in numbers_at(octets, at, KIND_OCTETS, counts[1])]
    at = at + KIND_OCTETS * len(kinds)
    rows = []
    for level in range(level_count(len(kinds))):
        rows.append(bits_at(octets, at, many))
        at = at + BLOCK_OCTETS * block_total(many) + COUNT_OCTETS * (block_total(many) + 1)
    return [kind_of(kinds, rank) for rank in ranks_of(rows, many)]


def kind_of(kinds, rank):
    if rank >= len(kinds):
        raise NoOctets("a sign's rank is below the number of kinds")
    return kinds[rank]


def told_words(octets):
    depths = told_depths(octets[1:])
    behind_tree = octets[1 + len(tree_octets(depths)):]
    letters = told_signs(behind_tree)
    ends = told_bits(behind_tree[len(signs_octets(letters)):])
    return words_of(depths, letters, ends)
