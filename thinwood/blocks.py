"""Blocks of thirty-two bits, and what is asked of a single one."""

from thinwood.errors import NoBit, NoPlace, TooMany

BLOCK_BITS = 32
MOST_BITS = 4096


def packed(bits):
    check_row(bits)
    return [block_of(bits[at:at + BLOCK_BITS]) for at in range(0, len(bits), BLOCK_BITS)]


def check_row(bits):
    if len(bits) > MOST_BITS:
        raise TooMany("a row has at most 4,096 bits")
    for bit in bits:
        if bit != 0 and bit != 1:
            raise NoBit("a bit is 0 or 1")


def block_of(bits):
    # The first bit has the least weight, so it is put in last.
    block = 0
    for bit in reversed(bits):
        block = 2 * block + bit
    return block


def unpacked(blocks, many):
    if many < 0 or many > BLOCK_BITS * len(blocks):
        raise NoPlace("the blocks don't have so many bits")
    bits = []
    for block in blocks:
        bits.extend(bits_of(block, BLOCK_BITS))
    return bits[:many]


def bit_in(block, k):
    return (block >> k) & 1


def bits_of(block, upto):
    return [bit_in(block, k) for k in range(upto)]


def ones_in(block, upto):
    return sum(bits_of(block, upto))


def one_in(block, nth):
    ones = 0
    for k, bit in enumerate(bits_of(block, BLOCK_BITS)):
        if bit == 1 and ones == nth:
            return k
        ones = ones + bit
    return None


def nets_of(block, upto):
    # No net of the first 0 bits: no question asks for it, and it would be too low an answer.
    nets = []
    net = 0
    for bit in bits_of(block, upto):
        net = net + 2 * bit - 1
        nets.append(net)
    return nets


def low_in(block, upto):
    return min(nets_of(block, upto), default=0)


def first_low_in(block, start, stop, goal):
    for k, net in enumerate(nets_of(block, stop), start=1):
        if k > start and net <= goal:
            return k
    return None


def last_low_in(block, start, stop, goal):
    found = None
    for k, net in enumerate(nets_of(block, stop), start=1):
        if k > start and net <= goal:
            found = k
    return found


def look_of(blocks):
    # A copy, so that a later change of the list changes nothing that the look tells.
    kept = list(blocks)

    def look(number):
        return kept[number]

    return look


def look_from(look, first):
    return lambda number: look(first + number)
