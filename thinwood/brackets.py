"""The brackets of a tree: a row of bits, with a heap of the least heights of its blocks beside it.

Block j is taken to hold the places from 32 * j + 1 to 32 * j + 32, since the height at a place k is that behind
the first k bits: so place 0 is of no block.
"""

from thinwood.blocks import BLOCK_BITS, check_row, first_low_in, last_low_in, low_in, nets_of
from thinwood.errors import NoNode, NoPlace, NoTree
from thinwood.heaps import first_at_most, heap_of, last_at_most, least_of
from thinwood.rows import bit_at, check_place, kept_row, ones_at


def is_tree(bits):
    level = 0
    for at, bit in enumerate(bits):
        if at > 0 and level <= 0:
            return False
        level = level + 2 * bit - 1
    return len(bits) >= 2 and level == 0


def check_brackets(bits):
    check_row(bits)
    if not is_tree(bits):
        raise NoTree("the brackets are no tree's")


def kept_brackets(bits):
    check_brackets(bits)
    row = kept_row(bits)
    tables = row[0]
    blocks = row[1]
    lows = [low_of(tables, number, block) for number, block in enumerate(blocks)]
    return ((tables[0], tables[1], tuple(heap_of(lows))), blocks)


def low_of(tables, number, block):
    return base_of(tables, number) + low_in(block, end_within(number, tables[0]))


def base_of(tables, number):
    # Each block ahead is full, so the ones of the table tell its noughts, too.
    return 2 * tables[1][number] - BLOCK_BITS * number


def start_within(number, at):
    return max(at - BLOCK_BITS * number, 0)


def end_within(number, upto):
    return min(upto - BLOCK_BITS * number, BLOCK_BITS)


def block_count(tables):
    return len(tables[1]) - 1


def heap_look(tables):
    nodes = tables[2]
    return lambda node: nodes[node]


def height(tables, look, at):
    return 2 * ones_at(tables, look, at) - at


def lowest(tables, look, at, upto):
    if not 0 <= at < upto <= tables[0]:
        raise NoPlace("the row has no such stretch")
    first = at // BLOCK_BITS
    last = (upto - 1) // BLOCK_BITS
    lows = [lowest_within(tables, look, first, at, upto)]
    if last > first:
        lows.append(lowest_within(tables, look, last, at, upto))
    if last > first + 1:
        lows.append(least_of(block_count(tables), heap_look(tables), first + 1, last))
    return min(lows)


def lowest_within(tables, look, number, at, upto):
    nets = nets_of(look(number), end_within(number, upto))
    return base_of(tables, number) + min(nets[start_within(number, at):])


def low_behind(tables, look, at, goal):
    check_place(at, tables[0])
    # At the row's end there may be no such block.
    if at == tables[0]:
        return None
    number = at // BLOCK_BITS
    found = first_within(tables, look, number, at, goal)
    if found is not None:
        return found
    further = first_at_most(block_count(tables), heap_look(tables), number + 1, goal)
    if further is None:
        return None
    return first_within(tables, look, further, at, goal)


def first_within(tables, look, number, at, goal):
    start = start_within(number, at)
    stop = end_within(number, tables[0])
    return place_of_bit(number, first_low_in(look(number), start, stop, goal - base_of(tables, number)))


def place_of_bit(number, within):
    if within is None:
        return None
    return BLOCK_BITS * number + within


def low_ahead(tables, look, at, goal):
    check_place(at, tables[0])
    found = last_low_upto(tables, look, at - 1, goal)
    # Place 0, whose height is 0, is of no block.
    if found is None and at > 0 and goal >= 0:
        return 0
    return found


def last_low_upto(tables, look, upto, goal):
    if upto < 1:
        return None
    number = (upto - 1) // BLOCK_BITS
    found = last_within(tables, look, number, upto, goal)
    if found is not None:
        return found
    further = last_at_most(block_count(tables), heap_look(tables), number, goal)
    if further is None:
        return None
    return last_within(tables, look, further, upto, goal)


def last_within(tables, look, number, upto, goal):
    stop = end_within(number, upto)
    return place_of_bit(number, last_low_in(look(number), 0, stop, goal - base_of(tables, number)))


def check_bracket(tables, look, at, bit):
    if bit_at(tables, look, at) != bit:
        raise NoNode("no such bracket stands there")


def closing(tables, look, at):
    check_bracket(tables, look, at, 1)
    return low_behind(tables, look, at, height(tables, look, at)) - 1


def opening(tables, look, at):
    check_bracket(tables, look, at, 0)
    return low_ahead(tables, look, at, height(tables, look, at) - 1)


def further_out(tables, look, at, pairs):
    check_bracket(tables, look, at, 1)
    if pairs == 0:
        return at
    return low_ahead(tables, look, at, height(tables, look, at) - pairs)
