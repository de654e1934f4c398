"""What the tests share: sample rows, trees, signs and words, a look that watches, and plain walks to hold answers to."""

import unittest

from thinwood.errors import (
    NoBit,
    NoNode,
    NoOctets,
    NoPlace,
    NoSign,
    NoTree,
    NoWord,
    TooMany,
    Twice,
    WoodError,
)

REFUSALS = (TooMany, NoBit, NoPlace, NoNode, NoTree, NoSign, NoWord, Twice, NoOctets)

FULL = 2 ** 32 - 1

# The most figures of which something is promised.
GREAT = 10 ** 300 - 1

LENGTHS = (0, 1, 2, 5, 31, 32, 33, 63, 64, 65, 100, 127, 128, 129, 1000, 2048, 4063, 4064, 4065, 4095, 4096)


class Case(unittest.TestCase):
    def same(self, told, asked, note=None):
        """Equal, and of the same kinds all the way down: True is not 1, a tuple is not a list."""
        self.assertEqual(told, asked, note)
        self.assertEqual(kinds(told), kinds(asked), note)

    def refused(self, refusal, function, *arguments):
        try:
            told = function(*arguments)
        except WoodError as error:
            self.assertIsInstance(error, refusal)
            for other in REFUSALS:
                if other is not refusal:
                    self.assertNotIsInstance(error, other)
        else:
            self.fail(f"{function.__name__} told {told!r} and did not refuse with {refusal.__name__}")

    def answered(self, kept, question, asked_for, answer, most):
        """The answer, its kind, and the blocks looked at, which are told: only such as are there, and not too many."""
        look = WatchedLook(kept.blocks)
        told = question(kept.tables, look, *asked_for)
        if told != answer or kinds(told) != kinds(answer):
            self.fail((question.__name__, kept.tables, kept.blocks, asked_for, told, answer))
        if len(look.seen) > most:
            self.fail((question.__name__, kept.tables, kept.blocks, asked_for, f"{len(look.seen)} blocks of {most}"))
        return look.seen


def kinds(value):
    if isinstance(value, (list, tuple)):
        return (type(value), [kinds(one) for one in value])
    return type(value)


class WatchedLook:
    """A look that fails on a block (or node) that isn't there, and remembers which ones were asked for.

    It fails, too, when it is asked so often that whoever asks doesn't seem to come to an end.
    """

    def __init__(self, blocks, first=0):
        self.blocks = tuple(blocks)
        self.first = first
        self.seen = set()
        self.asked = 0

    def __call__(self, number):
        self.asked += 1
        if self.asked > 5000000:
            raise AssertionError("a look was asked without end")
        if type(number) is not int or not self.first <= number < len(self.blocks):
            raise AssertionError(f"block or node {number!r} was asked for, of {self.first} to {len(self.blocks) - 1}")
        self.seen.add(number)
        return self.blocks[number]


def numbers_from(seed):
    """A row of numbers below 2 ** 32 without end, the same at each run."""
    state = seed
    while True:
        state = (state * 6364136223846793005 + 1442695040888963407) % 2 ** 64
        yield state // 2 ** 32


def mixed_row(many, seed, of_a_hundred=50):
    source = numbers_from(seed)
    return [1 if next(source) % 100 < of_a_hundred else 0 for k in range(many)]


def sample_rows():
    for many in LENGTHS:
        yield [0] * many
        yield [1] * many
        yield [k % 2 for k in range(many)]
        # Whole blocks of one kind between others: many blocks have the same count ahead.
        yield [1 - k // 64 % 2 for k in range(many)]
        yield mixed_row(many, many + 1)
        yield mixed_row(many, many + 2, 3)
        yield mixed_row(many, many + 3, 97)
        if many > 0:
            yield [0] * (many - 1) + [1]
            yield [1] * (many - 1) + [0]


def sample_blocks():
    blocks = [0, FULL, 1, 2, 3, 2 ** 31, 2 ** 31 - 1, FULL - 1, FULL // 3, FULL // 3 * 2, 65535, FULL - 65535]
    blocks.extend(2 ** k for k in range(32))
    blocks.extend(FULL - 2 ** k for k in range(32))
    source = numbers_from(3)
    blocks.extend(next(source) for k in range(40))
    return blocks


def block_bits(block):
    return [block // 2 ** k % 2 for k in range(32)]


def plain_blocks(bits):
    blocks = [0] * ((len(bits) + 31) // 32)
    for i, bit in enumerate(bits):
        blocks[i // 32] += bit * 2 ** (i % 32)
    return blocks


def plain_tables(bits):
    ahead = [sum(bits[:at]) for at in range(0, len(bits), 32)]
    return (len(bits), tuple(ahead + [sum(bits)]))


def mixed_depths(many, seed, deeper=50):
    """A tree whose nodes stand, so many of a hundred times, one deeper than the node ahead."""
    source = numbers_from(seed)
    depths = [0]
    while len(depths) < many:
        if depths[-1] == 0 or next(source) % 100 < deeper:
            depths.append(depths[-1] + 1)
        else:
            depths.append(next(source) % depths[-1] + 1)
    return depths


def sample_trees(counts):
    """Lists of depths: for each count of nodes a chain, many young of one node, and others between the two."""
    for many in counts:
        yield list(range(many))
        yield [0] + [1] * (many - 1)
        # Young of one node, each with a chain beneath it: brackets end at every distance from a block's end.
        yield [0] + [k % 11 + 1 for k in range(many - 1)]
        # A chain, and behind it young of its last node.
        yield list(range(many // 2 + 1)) + [many // 2 + 1] * (many - many // 2 - 1)
        # A chain that goes down step by step again.
        yield list(range(many - many // 2)) + list(range(many // 2, 0, -1))
        # The more often a node stands deeper than the one ahead, the deeper the tree.
        for deeper in (50, 90, 98):
            yield mixed_depths(many, many + deeper, deeper)


def all_trees(many):
    """Each tree of so many nodes, once."""
    if many == 1:
        return [[0]]
    return [depths + [depth] for depths in all_trees(many - 1) for depth in range(1, depths[-1] + 2)]


def plain_brackets(depths):
    """An opening bracket for each node, and ahead of it a closing one for each node that the next one isn't beneath."""
    bits = []
    unclosed = []
    for depth in depths:
        while unclosed and unclosed[-1] >= depth:
            unclosed.pop()
            bits.append(0)
        unclosed.append(depth)
        bits.append(1)
    return bits + [0] * len(unclosed)


def plain_heights(bits):
    """The height at each place from 0 to the number of bits."""
    heights = [0]
    for bit in bits:
        heights.append(heights[-1] + (1 if bit == 1 else -1))
    return heights


def plain_heap(numbers):
    size = 1
    while size < len(numbers):
        size *= 2
    nodes = [None]
    width = size
    while width >= 1:
        for start in range(0, size, width):
            nodes.append(min(numbers[start:start + width], default=None))
        width //= 2
    return nodes


def plain_bracket_tables(bits):
    heights = plain_heights(bits)
    lows = [min(heights[at + 1:at + 33]) for at in range(0, len(bits), 32)]
    return plain_tables(bits) + (tuple(plain_heap(lows)),)


class PlainTree:
    """A tree, with what a plain walk over the list of its depths tells."""

    def __init__(self, depths):
        self.depths = list(depths)
        self.count = len(depths)
        self.bits = plain_brackets(depths)
        self.tables = plain_bracket_tables(self.bits)
        self.blocks = plain_blocks(self.bits)
        self.walk_families()
        self.walk_brackets()

    def walk_families(self):
        self.elders = []
        self.young = [[] for node in self.depths]
        self.younger = [None] * self.count
        self.older = [None] * self.count
        latest = {}
        for node, depth in enumerate(self.depths):
            elder = latest.get(depth - 1)
            self.elders.append(elder)
            latest[depth] = node
            if elder is not None:
                if self.young[elder]:
                    self.older[node] = self.young[elder][-1]
                    self.younger[self.older[node]] = node
                self.young[elder].append(node)
        self.beneath = [0] * self.count
        for node in reversed(range(1, self.count)):
            self.beneath[self.elders[node]] += self.beneath[node] + 1

    def walk_brackets(self):
        """For each place the node and whether its opening bracket stands there; for each node its two places."""
        self.brackets = []
        self.openings = []
        self.closings = [None] * self.count
        unclosed = []
        for place, bit in enumerate(self.bits):
            if bit == 1:
                unclosed.append(len(self.openings))
                self.brackets.append((unclosed[-1], True))
                self.openings.append(place)
            else:
                self.brackets.append((unclosed[-1], False))
                self.closings[unclosed.pop()] = place

    def first(self, node):
        return self.young[node][0] if self.young[node] else None

    def line(self, node):
        """The node, its elder, the elder's elder and so on up to the root."""
        nodes = []
        while node is not None:
            nodes.append(node)
            node = self.elders[node]
        return nodes

    def common(self, one, other):
        both = set(self.line(one)) & set(self.line(other))
        return max(both, key=lambda node: self.depths[node])

    def no_nodes(self):
        """Numbers just beyond, far beyond and below nought."""
        many = self.count
        beyond = [many, many + 1, many + 31, many + 32, 2 * many, 2 * many + 1, 5000, 2 ** 32, GREAT]
        below = [-1, -2, -32, -many, -many - 1, -2 * many, -5000, -(2 ** 32), -GREAT]
        return beyond + below

    def picked(self, most):
        """All nodes where there are few; else some all over, those with brackets by the ends of blocks among them."""
        if self.count <= most:
            return list(range(self.count))
        ends = [0, 1, 2, self.count - 2, self.count - 1]
        near = [node for node in range(self.count)
                if self.openings[node] % 32 in (30, 31, 0, 1) or self.closings[node] % 32 in (30, 31, 0, 1)]
        return sorted(set(ends + near[::len(near) // most + 1] + list(range(7, self.count, self.count // 8))))


def mixed_signs(many, kinds, seed):
    """So many signs of at most so many kinds, some of them below nought and not all of them side by side."""
    source = numbers_from(seed)
    return [next(source) % kinds * 3 - kinds for k in range(many)]


def sample_signs(lengths, kind_counts):
    """Rows of signs: none, one kind alone, just so many kinds, all unlike, in long runs, and by the bounds."""
    yield []
    for many in lengths:
        yield [7] * many
        yield list(range(many))
        yield list(range(many, 0, -1))
        yield [k * k * 7919 % many for k in range(many)]
        yield [SIGN_BOUND - 1 - k % 3 for k in range(many)]
        yield [-(SIGN_BOUND - 1) if k % 5 < 2 else SIGN_BOUND - 1 for k in range(many)]
        for count in kind_counts:
            if count < many:
                # Each kind is there, in an order that is neither rising nor falling.
                yield [k * 5 % count - 2 for k in range(count)] + mixed_signs(many - count, count, many + count)
                yield [10 ** 9 * (k * count // many) for k in range(many)]


SIGN_BOUND = 10 ** 60


class PlainSigns:
    """A row of signs, with its tables and blocks as a plain walk over each level tells them."""

    def __init__(self, signs):
        self.signs = list(signs)
        self.many = len(signs)
        self.kinds = sorted(set(signs))
        self.levels = 0
        while 2 ** self.levels < len(self.kinds):
            self.levels += 1
        ranks = {kind: rank for rank, kind in enumerate(self.kinds)}
        self.rows = [self.level_bits([ranks[sign] for sign in signs], level) for level in range(self.levels)]
        self.tables = (self.many, tuple(self.kinds), tuple(plain_tables(bits)[1] for bits in self.rows))
        self.blocks = [block for bits in self.rows for block in plain_blocks(bits)]

    def level_bits(self, ranks, level):
        """Each level ahead has put the noughts first, so the one just ahead counts most; else the row's order holds."""
        def bits_ahead(rank):
            return [self.rank_bit(rank, ahead) for ahead in reversed(range(level))]

        return [self.rank_bit(rank, level) for rank in sorted(ranks, key=bits_ahead)]

    def rank_bit(self, rank, level):
        return rank // 2 ** (self.levels - 1 - level) % 2

    def no_signs(self):
        """Whole numbers that no place bears: beside, between and far beyond the signs."""
        near = {kind + step for kind in self.kinds[:9] + self.kinds[-9:] for step in (-1, 1)}
        far = {0, 5, SIGN_BOUND, -SIGN_BOUND, GREAT, -GREAT}
        return sorted((near | far) - set(self.kinds))


LETTERS = "abcdefghijklmnopqrstuvwxyz"


def mixed_words(nodes, letters, longest, seed):
    """Words of these letters, as many as a tree of so many nodes has room for when they come one by one."""
    source = numbers_from(seed)
    words = []
    texts = {""}
    while True:
        word = "".join(letters[next(source) % len(letters)] for k in range(next(source) % (longest + 1)))
        texts.update(word[:upto] for upto in range(len(word) + 1))
        if len(texts) > nodes:
            return words
        if word not in words:
            words.append(word)


def full_words():
    """Words whose tree has just 2,048 nodes: the root, 26 * 40 of the first ones, 25 * 39 of the others, and 32."""
    return [letter * 40 for letter in LETTERS] + [letter + "z" * 39 for letter in LETTERS[:25]] + ["z" + "a" * 32]


def plain_node_count(words):
    return len({word[:upto] for word in words for upto in range(len(word) + 1)} | {""})


def sample_stores():
    """Lists of words, each in an order of no kind."""
    yield []
    yield [""]
    yield ["a"]
    yield ["z", ""]
    yield ["b", "a"]
    yield ["abc", "ab", "abcd", "b", "abd"]
    yield ["q" * 40]
    yield ["q" * 40, "q" * 39, "q"]
    yield ["a" * 40, "a" * 39 + "z", "z" * 40, "m", "z" * 39 + "a", ""]
    yield ["a" * k for k in range(40, -1, -3)]
    yield list(LETTERS[::-1])
    yield [one + other for one in LETTERS[::3] for other in LETTERS[::-2]]
    yield mixed_words(33, "ab", 6, 1)
    yield mixed_words(64, "abz", 5, 2)
    yield mixed_words(300, "ax", 40, 3)
    yield mixed_words(700, LETTERS, 3, 4)


def great_stores():
    yield full_words()
    yield ["z" * deep + letter for deep in range(40) for letter in LETTERS]
    yield mixed_words(2048, LETTERS, 4, 5)
    yield mixed_words(2048, "ab", 40, 6)


class PlainStore:
    """A store, with its tree, letters and ends as a plain walk over the sorted beginnings of its words tells them."""

    def __init__(self, words):
        self.words = sorted(words)
        self.texts = sorted({word[:upto] for word in words for upto in range(len(word) + 1)} | {""})
        self.nodes = {text: node for node, text in enumerate(self.texts)}
        self.depths = [len(text) for text in self.texts]
        self.letters = [LETTERS.index(text[-1]) for text in self.texts if text]
        self.ends = [1 if text in words else 0 for text in self.texts]
        bits = plain_brackets(self.depths)
        signs = PlainSigns(self.letters)
        self.tables = (plain_bracket_tables(bits), signs.tables, plain_tables(self.ends))
        self.blocks = plain_blocks(bits) + signs.blocks + plain_blocks(self.ends)

    def ahead(self, text):
        return len([word for word in self.words if word < text])

    def stretch(self, text):
        first = self.ahead(text)
        return (first, first + len([word for word in self.words if word.startswith(text)]))

    def longest(self, text):
        return max([word for word in self.words if text.startswith(word)], key=len, default=None)


def plain_number_octets(numbers, size):
    return [octet for number in numbers for octet in number.to_bytes(size, "little")]


def plain_row_octets(bits):
    ahead = plain_tables(bits)[1]
    return [1] + plain_number_octets([len(bits)], 2) + plain_level_octets(bits, ahead)


def plain_level_octets(bits, ahead):
    return plain_number_octets(plain_blocks(bits), 4) + plain_number_octets(ahead, 2)


def plain_tree_octets(depths):
    bits = plain_brackets(depths)
    heights = plain_heights(bits)
    lows = [min(heights[at + 1:at + 33]) for at in range(0, len(bits), 32)]
    return [2] + plain_row_octets(bits)[1:] + plain_number_octets(lows, 2)


def plain_signs_octets(signs):
    plain = PlainSigns(signs)
    octets = [3] + plain_number_octets([plain.many, len(plain.kinds)], 2)
    octets += plain_number_octets([kind + 10 ** 60 for kind in plain.kinds], 26)
    for bits, ahead in zip(plain.rows, plain.tables[2], strict=True):
        octets += plain_level_octets(bits, ahead)
    return octets


def plain_store_octets(words):
    plain = PlainStore(words)
    return [4] + plain_tree_octets(plain.depths) + plain_signs_octets(plain.letters) + plain_row_octets(plain.ends)
