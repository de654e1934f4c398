"""Rows of bits: blocks, and a table of the ones ahead of each block."""

from thinwood.blocks import BLOCK_BITS, bit_in, one_in, ones_in, packed
from thinwood.errors import NoPlace


def kept_row(bits):
    blocks = packed(bits)
    return ((len(bits), ahead_of(blocks)), blocks)


def ahead_of(blocks):
    ahead = [0]
    for block in blocks:
        ahead.append(ahead[-1] + ones_in(block, BLOCK_BITS))
    return tuple(ahead)


def check_place(at, most):
    if at < 0 or at > most:
        raise NoPlace("the row has no such place")


def bit_at(tables, look, at):
    check_place(at, tables[0] - 1)
    return bit_in(look(at // BLOCK_BITS), at % BLOCK_BITS)


def ones_at(tables, look, at):
    many = tables[0]
    ahead = tables[1]
    check_place(at, many)
    number = at // BLOCK_BITS
    within = at % BLOCK_BITS
    # Ahead of a block's first bit the table tells all, and at the row's end there may be no such block.
    if within == 0:
        return ahead[number]
    return ahead[number] + ones_in(look(number), within)


def noughts_at(tables, look, at):
    return at - ones_at(tables, look, at)


def one_place(tables, look, nth):
    ahead = tables[1]
    check_nth(nth, ahead[-1])
    number = last_no_greater(ahead, nth)
    return BLOCK_BITS * number + one_in(look(number), nth - ahead[number])


def nought_place(tables, look, nth):
    many = tables[0]
    ahead = tables[1]
    check_nth(nth, many - ahead[-1])
    noughts = [BLOCK_BITS * number - ahead[number] for number in range(len(ahead) - 1)]
    number = last_no_greater(noughts, nth)
    # The last block's bits that are none of the row's turn to ones, too, but stand behind the one that is sought.
    turned = 2 ** 32 - 1 - look(number)
    return BLOCK_BITS * number + one_in(turned, nth - noughts[number])


def check_nth(nth, many):
    if nth < 0 or nth >= many:
        raise NoPlace("the row has no more than so many of the kind")


def last_no_greater(numbers, goal):
    # The numbers never fall and the first is no greater than the goal, so halving finds the place.
    low = 0
    high = len(numbers)
    while high - low > 1:
        middle = (low + high) // 2
        if numbers[middle] <= goal:
            low = middle
        else:
            high = middle
    return low
