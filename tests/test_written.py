import inspect
import unittest

from tests.helper import (
    GREAT,
    LENGTHS,
    LETTERS,
    SIGN_BOUND,
    Case,
    PlainTree,
    full_words,
    great_stores,
    mixed_depths,
    mixed_row,
    mixed_signs,
    mixed_words,
    numbers_from,
    plain_brackets,
    plain_number_octets,
    plain_row_octets,
    plain_signs_octets,
    plain_store_octets,
    plain_tree_octets,
    sample_rows,
    sample_signs,
    sample_stores,
    sample_trees,
)
from thinwood import written as module
from thinwood.errors import NoBit, NoOctets, NoSign, NoTree, NoWord, TooMany, Twice
from thinwood.hands import Hand
from thinwood.trees import (
    beneath_of,
    common_of,
    depth_of,
    elder_of,
    first_of,
    is_over,
    older_of,
    place_of,
    up_of,
    younger_of,
)
from thinwood.walks import Late
from thinwood.written import (
    opened_tree,
    read_row,
    read_signs,
    read_store,
    read_tree,
    row_octets,
    signs_octets,
    store_octets,
    tree_octets,
)

NO_OCTETS = (-1, -2, -255, -256, 256, 257, 511, 512, 2 ** 32, GREAT, -GREAT)

READERS = (read_row, read_tree, read_signs, read_store, opened_tree)


def written_rows():
    return list(sample_rows())


def written_trees():
    return list(sample_trees((1, 2, 3, 15, 16, 17, 31, 32, 33, 48, 65, 500, 2047, 2048)))


def written_signs():
    rows = list(sample_signs((1, 2, 5, 32, 33, 65), (2, 3, 4, 5, 8, 9, 16, 17, 33)))
    return rows + [[9] * 4096, list(range(4096)), mixed_signs(4096, 2048, 1), mixed_signs(4095, 33, 2)]


def written_stores():
    return list(sample_stores()) + list(great_stores())


class Kind:
    """One of the four things that are written, with the plain writer to hold the program against."""

    def __init__(self, mark, write, read, plain, few):
        self.mark = mark
        self.write = write
        self.read = read
        self.plain = plain
        self.few = few


ROWS = Kind(1, row_octets, read_row, plain_row_octets, (
    [], [0], [1], [1, 0, 1], [0] * 31, [1] * 32, [1, 0] * 16 + [1], [0] * 33, mixed_row(64, 1), mixed_row(100, 2),
))
TREES = Kind(2, tree_octets, read_tree, plain_tree_octets, (
    [0], [0, 1], [0, 1, 1], list(range(16)), list(range(17)), [0] + [1] * 16, [0, 1, 2, 3, 1, 2, 1],
    mixed_depths(33, 3), mixed_depths(50, 4, 90),
))
SIGNS = Kind(3, signs_octets, read_signs, plain_signs_octets, (
    [], [0], [5] * 33, [1, 0], [-7, 7, -7], [3, 1, 2], mixed_signs(33, 5, 1), [SIGN_BOUND - 1, -SIGN_BOUND + 1],
    list(range(9)), mixed_signs(40, 3, 2),
))
STORES = Kind(4, store_octets, read_store, plain_store_octets, (
    [], [""], ["a"], ["", "z"], ["a", "b"], ["ab", "b"], ["abc", "ab", "abd", "z"], ["q" * 40, "q" * 39],
    mixed_words(33, "abz", 5, 1), list(LETTERS),
))
KINDS = (ROWS, TREES, SIGNS, STORES)


def put(octets, at, octet):
    return octets[:at] + [octet] + octets[at + 1:]


def exchanged(octets, one, other):
    return put(put(octets, one, octets[other]), other, octets[one])


def bit_changes(octets):
    for at, octet in enumerate(octets):
        for bit in range(8):
            yield put(octets, at, octet ^ 2 ** bit)


def some_of(things, most):
    return things[::len(things) // most + 1]


def changes(octets):
    """Lists that differ from these octets, all over: cut, longer, changed, exchanged, and with numbers that are none."""
    source = numbers_from(len(octets))
    many = len(octets)
    for upto in some_of(range(many), 60):
        yield octets[:upto]
    yield octets[:-1]
    yield octets[1:]
    for behind in ([0], [1], [255], [0, 0], [0, 0, 0, 0], octets, [256], [-1]):
        yield octets + behind
        yield behind + octets
    for at in some_of(range(many), 80):
        for octet in (0, 1, 255, (octets[at] + 1) % 256, (octets[at] - 1) % 256, next(source) % 256):
            if octet != octets[at]:
                yield put(octets, at, octet)
        # These are the same number where they are taken modulo 256.
        for octet in (octets[at] + 256, octets[at] - 256, -1, 256, GREAT, -GREAT):
            yield put(octets, at, octet)
        yield octets[:at] + octets[at + 1:]
        yield octets[:at] + [0] + octets[at:]
        for other in (at - 1, at // 2, next(source) % many):
            if other >= 0 and octets[at] != octets[other]:
                yield exchanged(octets, at, other)
    yield from some_of(list(bit_changes(octets)), 400)


class Interface(Case):
    def test_names_and_arguments(self):
        told = {
            "row_octets": ["bits"],
            "tree_octets": ["depths"],
            "signs_octets": ["signs"],
            "store_octets": ["words"],
            "read_row": ["octets"],
            "read_tree": ["octets"],
            "read_signs": ["octets"],
            "read_store": ["octets"],
            "opened_tree": ["octets"],
        }
        for name, arguments in told.items():
            self.assertEqual(arguments, list(inspect.signature(getattr(module, name)).parameters), name)


class Writing(Case):
    def hold(self, write, plain, things):
        for thing in things:
            before = list(thing)
            told = write(thing)
            self.same(told, plain(thing))
            self.same(thing, before)

    def test_rows(self):
        self.hold(row_octets, plain_row_octets, written_rows())

    def test_trees(self):
        self.hold(tree_octets, plain_tree_octets, written_trees())

    def test_signs(self):
        self.hold(signs_octets, plain_signs_octets, written_signs())

    def test_stores(self):
        self.hold(store_octets, plain_store_octets, written_stores())

    def test_written_out(self):
        self.same(row_octets([]), [1, 0, 0, 0, 0])
        self.same(row_octets([1, 0, 1]), [1, 3, 0, 5, 0, 0, 0, 0, 0, 2, 0])
        self.same(row_octets([1] * 33), [1, 33, 0, 255, 255, 255, 255, 1, 0, 0, 0, 0, 0, 32, 0, 33, 0])
        self.same(tree_octets([0]), [2, 2, 0, 1, 0, 0, 0, 0, 0, 1, 0, 0, 0])
        # Brackets 1 1 1 0 0 1 0 0.
        self.same(tree_octets([0, 1, 2, 1]), [2, 8, 0, 39, 0, 0, 0, 0, 0, 4, 0, 0, 0])
        # Seventeen opening brackets and as many closing ones: the lows are 1 and 0.
        told = [2, 34, 0, 255, 255, 1, 0, 0, 0, 0, 0, 0, 0, 17, 0, 17, 0, 1, 0, 0, 0]
        self.same(tree_octets(list(range(17))), told)
        self.same(signs_octets([]), [3, 0, 0, 0, 0])
        self.same(signs_octets([1 - 10 ** 60] * 2), [3, 2, 0, 1, 0, 1] + [0] * 25)
        low = list((10 ** 60 - 3).to_bytes(26, "little"))
        high = list((10 ** 60 + 9).to_bytes(26, "little"))
        self.same(signs_octets([9, -3, 9]), [3, 3, 0, 2, 0] + low + high + [5, 0, 0, 0, 0, 0, 2, 0])
        told = [4] + tree_octets([0]) + signs_octets([]) + row_octets([0])
        self.same(store_octets([]), told)
        told = [4] + tree_octets([0, 1, 2, 1]) + signs_octets([1, 0, 25]) + row_octets([0, 0, 1, 1])
        self.same(store_octets(["z", "ba"]), told)

    def test_a_trees_tables_take_as_many_octets_as_its_blocks_and_two(self):
        for depths in written_trees():
            blocks = (2 * len(depths) + 31) // 32
            self.same(len(tree_octets(depths)), 3 + 4 * blocks + 4 * blocks + 2)

    def test_the_words_may_come_in_any_order(self):
        for words in sample_stores():
            self.same(store_octets(words[::-1]), store_octets(sorted(words)))

    def test_refuse_as_the_keepers_do(self):
        for many in (4097, 5000):
            self.refused(TooMany, row_octets, [0] * many)
            self.refused(TooMany, row_octets, [2] * many)
            self.refused(TooMany, signs_octets, [0] * many)
            self.refused(TooMany, signs_octets, [SIGN_BOUND] * many)
        for bit in (-1, 2, 255, 256, GREAT, -GREAT):
            self.refused(NoBit, row_octets, [0, bit])
            self.refused(NoBit, row_octets, [bit] + [0] * 4095)
        for many in (2049, 3000):
            self.refused(TooMany, tree_octets, list(range(many)))
            self.refused(TooMany, tree_octets, [1] * many)
        for depths in ([], [1], [-1], [0, 0], [0, 2], [0, 1, 3], [0, 1, 0], [0, -1], [0, GREAT], [5] + [1] * 2047):
            self.refused(NoTree, tree_octets, depths)
        for sign in (SIGN_BOUND, -SIGN_BOUND, SIGN_BOUND + 1, GREAT, -GREAT):
            self.refused(NoSign, signs_octets, [sign])
            self.refused(NoSign, signs_octets, [0] * 4095 + [sign])
        many = full_words() + ["zb"]
        for word in ("A", "a" * 41, " ", "\n", "a{", "`"):
            self.refused(NoWord, store_octets, [word])
            self.refused(NoWord, store_octets, many + [many[0], word])
        self.refused(Twice, store_octets, ["a", "a"])
        self.refused(Twice, store_octets, ["", "b", ""])
        self.refused(Twice, store_octets, many + [many[0]])
        self.refused(TooMany, store_octets, many)

    def test_the_told_list_is_the_askers_own(self):
        for kind in KINDS:
            for thing in kind.few:
                asked = kind.plain(thing)
                told = kind.write(list(thing))
                told.append(1)
                told[0] = 9
                self.same(kind.write(list(thing)), asked)
                handed = list(thing)
                again = kind.write(handed)
                handed.append(handed[0] if handed else 1)
                handed.reverse()
                self.same(again, asked)


class Reading(Case):
    def hold(self, kind, things, told_as=list):
        for thing in things:
            octets = kind.plain(thing)
            before = list(octets)
            told = kind.read(octets)
            self.same(told, told_as(thing))
            self.same(octets, before)
            self.same(kind.write(told), octets)

    def test_rows(self):
        self.hold(ROWS, written_rows())

    def test_trees(self):
        self.hold(TREES, written_trees())

    def test_signs(self):
        self.hold(SIGNS, written_signs())

    def test_stores(self):
        self.hold(STORES, written_stores(), sorted)

    def test_least_and_greatest(self):
        self.hold(ROWS, ([], [0], [0] * 4096, [1] * 4096, mixed_row(4096, 5)))
        self.hold(TREES, ([0], list(range(2048)), [0] + [1] * 2047, mixed_depths(2048, 6)))
        self.hold(SIGNS, ([], [0], [-SIGN_BOUND + 1, SIGN_BOUND - 1], list(range(-2048, 2048)), [0] * 4096))
        self.hold(STORES, ([], [""], full_words()), sorted)

    def test_one_more_than_may_be_written_is_refused(self):
        self.refused(NoOctets, read_row, plain_row_octets([0] * 4097))
        self.refused(NoOctets, read_row, plain_row_octets([1, 0] * 2500))
        self.refused(NoOctets, read_tree, plain_tree_octets(list(range(2049))))
        self.refused(NoOctets, opened_tree, plain_tree_octets([0] + [1] * 2048))
        self.refused(NoOctets, read_signs, plain_signs_octets([0] * 4097))
        self.refused(NoOctets, read_signs, plain_signs_octets(list(range(4097))))
        self.refused(NoOctets, read_signs, plain_signs_octets([SIGN_BOUND]))
        self.refused(NoOctets, read_signs, plain_signs_octets([-SIGN_BOUND, 4]))
        self.refused(NoOctets, read_store, plain_store_octets(full_words() + ["zb"]))
        self.refused(NoOctets, read_store, plain_store_octets(["a" * 41]))
        self.refused(NoOctets, read_store, plain_store_octets(["a" * 2047]))

    def test_none_at_all_and_of_another_kind(self):
        for read in READERS:
            for octets in ([], [0], [1], [2], [3], [4], [5], [1, 0], [2, 2], [3, 0, 0], [4, 2], [0] * 5, [255] * 40):
                self.refused(NoOctets, read, octets)
        for kind in KINDS:
            for thing in kind.few:
                octets = kind.plain(thing)
                for read in READERS:
                    if read is not kind.read and not (kind is TREES and read is opened_tree):
                        self.refused(NoOctets, read, octets)
                for mark in (0, 5, 6, 255, 256, -1) + tuple(other.mark for other in KINDS if other is not kind):
                    self.refused(NoOctets, kind.read, [mark] + octets[1:])

    def hold_changed(self, kind, octets):
        """Refused, or read as something of which just these octets are written."""
        before = list(octets)
        try:
            told = kind.read(octets)
        except NoOctets:
            told = None
        self.same(octets, before)
        if told is None:
            self.refused(NoOctets, kind.read, octets)
            if kind is TREES:
                self.refused(NoOctets, opened_tree, octets)
            return 0
        self.same(kind.plain(told), octets)
        return 1

    def test_changed_octets(self):
        for kind in KINDS:
            taken = 0
            for thing in kind.few:
                octets = kind.plain(thing)
                for changed in changes(octets):
                    taken += self.hold_changed(kind, changed)
            # Another kind of sign may be written by one other octet, another order of bits by two.
            if kind is SIGNS:
                self.assertGreater(taken, 20)

    def test_numbers_that_are_no_octets(self):
        for kind in KINDS:
            for thing in kind.few:
                octets = kind.plain(thing)
                for at in some_of(range(len(octets)), 40):
                    for number in NO_OCTETS + (octets[at] + 256, octets[at] - 256):
                        self.refused(NoOctets, kind.read, put(octets, at, number))

    def test_cut_and_gone_on_with(self):
        for kind in KINDS:
            for thing in kind.few:
                octets = kind.plain(thing)
                for upto in range(len(octets)):
                    self.refused(NoOctets, kind.read, octets[:upto])
                for behind in ([0], [0, 0], [1], [255], [0] * 40, octets):
                    self.refused(NoOctets, kind.read, octets + behind)


class Trees(Case):
    def test_each_change_of_one_bit_is_refused(self):
        for depths in TREES.few + (mixed_depths(100, 7, 70), [0] + [k % 3 + 1 for k in range(80)]):
            for changed in bit_changes(plain_tree_octets(depths)):
                self.refused(NoOctets, read_tree, changed)
                self.refused(NoOctets, opened_tree, changed)

    def test_changes_of_one_bit_of_great_trees(self):
        for depths in (list(range(2048)), [0] + [1] * 2047, mixed_depths(2048, 8), mixed_depths(2047, 9, 90)):
            for changed in some_of(list(bit_changes(plain_tree_octets(depths))), 200):
                self.refused(NoOctets, read_tree, changed)

    def test_wrong_tables(self):
        # Two changes at once, by which the counts stay: a bracket for another one, with the table of the first tree.
        one = plain_tree_octets([0, 1, 2, 1])
        other = plain_tree_octets([0, 1, 1, 2])
        self.same(read_tree(one), [0, 1, 2, 1])
        self.same(read_tree(other), [0, 1, 1, 2])
        chain = plain_tree_octets(list(range(40)))
        for at in range(3 + 12, len(chain)):
            self.refused(NoOctets, read_tree, put(chain, at, chain[at] + 1))
        # A row's octets under a tree's mark, without the lows and with lows of brackets that are no tree's.
        self.refused(NoOctets, read_tree, [2] + plain_row_octets(plain_brackets([0, 1, 2]))[1:])
        for bits in ([0, 1], [1, 0, 1, 0], [1, 1], [1, 1, 0], [1, 0, 0, 1], []):
            octets = [2] + plain_row_octets(bits)[1:]
            for low in range(3):
                self.refused(NoOctets, read_tree, octets + [low, 0])
                self.refused(NoOctets, opened_tree, octets + [low, 0])
            self.refused(NoOctets, read_tree, octets)

    def test_bits_behind_the_rows_end(self):
        for depths in ([0], [0, 1], list(range(20))):
            octets = plain_tree_octets(depths)
            blocks = (2 * len(depths) + 31) // 32
            self.refused(NoOctets, read_tree, put(octets, 3 + 4 * blocks - 1, 128))

    def test_opened(self):
        for depths in written_trees():
            plain = PlainTree(depths)
            octets = plain_tree_octets(depths)
            tables, look = opened_tree(octets)
            self.same(tables, plain.tables)
            self.same([look(number) for number in range(len(plain.blocks))], plain.blocks)
            self.same(octets, plain_tree_octets(depths))

    def test_opened_is_a_tuple_of_two(self):
        told = opened_tree(tree_octets([0, 1]))
        self.assertIs(tuple, type(told))
        self.assertEqual(2, len(told))

    def test_opened_trees_are_asked_when_the_octets_have_been_changed_behind(self):
        for depths in TREES.few + (mixed_depths(300, 5, 80),):
            plain = PlainTree(depths)
            octets = plain_tree_octets(depths)
            tables, look = opened_tree(octets)
            for at in range(len(octets)):
                octets[at] = 255 - octets[at]
            octets.append(4)
            octets.reverse()
            for node in plain.picked(20):
                self.same(place_of(tables, look, node), plain.openings[node])
                self.same(depth_of(tables, look, node), plain.depths[node])
                self.same(elder_of(tables, look, node), plain.elders[node])
                self.same(first_of(tables, look, node), plain.first(node))
                self.same(younger_of(tables, look, node), plain.younger[node])
                self.same(older_of(tables, look, node), plain.older[node])
                self.same(beneath_of(tables, look, node), plain.beneath[node])
                self.same(up_of(tables, look, node, plain.depths[node]), 0)
                self.same(is_over(tables, look, 0, node), True)
                self.same(common_of(tables, look, node, plain.count - 1), plain.common(node, plain.count - 1))
            self.same([Hand(tables, look).step()], [plain.brackets[1]])
            closings = sorted(range(plain.count), key=lambda node: plain.closings[node])
            self.same(Late(tables, look).listed(), closings)


class Signs(Case):
    def octets(self, many, kinds, levels):
        """What would be written of these, were they a row of signs."""
        octets = [3] + plain_number_octets([many, len(kinds)], 2)
        octets += plain_number_octets([kind + 10 ** 60 for kind in kinds], 26)
        for bits in levels:
            octets += plain_row_octets(bits)[3:]
        return octets

    def test_kinds(self):
        bits = [0, 1, 1, 0]
        self.same(read_signs(self.octets(4, [-2, 5], [bits])), [-2, 5, 5, -2])
        # Falling, twice there, one that no place bears, and ones that are no signs.
        for kinds in ([5, -2], [5, 5], [5, SIGN_BOUND], [-SIGN_BOUND, 5], [5, 10 ** 61]):
            self.refused(NoOctets, read_signs, self.octets(4, kinds, [bits]))
        for other in ([0] * 4, [1] * 4):
            self.refused(NoOctets, read_signs, self.octets(4, [-2, 5], [other]))
        self.refused(NoOctets, read_signs, self.octets(4, [-2], [bits]))
        self.refused(NoOctets, read_signs, self.octets(4, [], [bits]))
        self.refused(NoOctets, read_signs, self.octets(4, [], []))
        self.refused(NoOctets, read_signs, self.octets(0, [1], []))
        self.refused(NoOctets, read_signs, self.octets(0, [1, 2], [[]]))

    def test_ranks_beyond_the_kinds(self):
        # Ranks 0, 1, 2 have the bits 00, 01, 10; a rank 3 has no kind.
        self.same(read_signs(self.octets(3, [4, 5, 6], [[0, 0, 1], [0, 1, 0]])), [4, 5, 6])
        self.refused(NoOctets, read_signs, self.octets(3, [4, 5, 6], [[0, 0, 1], [0, 1, 1]]))
        self.refused(NoOctets, read_signs, self.octets(4, [4, 5, 6], [[0, 0, 1, 1], [0, 1, 0, 1]]))
        self.same(read_signs(self.octets(4, [4, 5, 6, 7], [[0, 0, 1, 1], [0, 1, 0, 1]])), [4, 5, 6, 7])

    def test_too_few_and_too_many_levels(self):
        self.refused(NoOctets, read_signs, self.octets(3, [4, 5, 6], [[0, 0, 1]]))
        self.refused(NoOctets, read_signs, self.octets(3, [4, 5, 6], [[0, 0, 0], [0, 0, 1], [0, 1, 0]]))
        self.refused(NoOctets, read_signs, self.octets(3, [4], [[0, 0, 0]]))
        self.refused(NoOctets, read_signs, self.octets(2, [4, 5], [[0, 1], [0, 1]]))

    def test_another_kind_between_is_read(self):
        octets = plain_signs_octets([10, 30, 10, 20])
        told = read_signs(put(octets, 5, octets[5] ^ 1))
        self.same(told, [10 + (1 if octets[5] % 2 == 0 else -1), 30, told[0], 20])

    def test_great_counts_that_the_octets_do_not_bear_out(self):
        for many in (0, 1, 4096, 65535):
            for kinds in (1, 2, 4096, 65535):
                self.refused(NoOctets, read_signs, [3] + plain_number_octets([many, kinds], 2))
                self.refused(NoOctets, read_signs, [3] + plain_number_octets([many, kinds], 2) + [0] * 500)


class Stores(Case):
    def octets(self, depths, letters, ends):
        return [4] + plain_tree_octets(depths) + plain_signs_octets(letters) + plain_row_octets(ends)

    def test_letters(self):
        self.same(read_store(self.octets([0, 1, 1], [0, 25], [0, 1, 1])), ["a", "z"])
        for letters in ([25, 0], [3, 3], [0, 26], [-1, 0], [-26, 0], [0, SIGN_BOUND - 1], [0], [0, 1, 2], []):
            self.refused(NoOctets, read_store, self.octets([0, 1, 1], letters, [0, 1, 1]))
        self.refused(NoOctets, read_store, self.octets([0], [0], [1]))

    def test_ends(self):
        # A tip that is no word, and more and fewer ends than nodes.
        self.same(read_store(self.octets([0, 1, 2], [0, 1], [0, 0, 1])), ["ab"])
        for ends in ([0, 1, 0], [0, 0, 0], [1, 0, 0], [0, 0], [0, 0, 1, 0], [0, 0, 1, 1], [0, 1], []):
            self.refused(NoOctets, read_store, self.octets([0, 1, 2], [0, 1], ends))
        self.refused(NoOctets, read_store, self.octets([0], [], []))
        self.refused(NoOctets, read_store, self.octets([0], [], [0, 0]))

    def test_words_of_forty_one_letters_and_words_twice(self):
        deep = list(range(42))
        self.same(read_store(self.octets(deep[:41], [7] * 40, [0] * 40 + [1])), ["h" * 40])
        self.refused(NoOctets, read_store, self.octets(deep, [7] * 41, [0] * 41 + [1]))
        self.refused(NoOctets, read_store, self.octets([0, 1, 2, 1, 2], [4, 4, 4, 4], [0, 0, 1, 0, 1]))
        self.refused(NoOctets, read_store, self.octets(list(range(2048)), [0] * 2047, [1] * 2048))

    def test_parts_that_are_no_parts(self):
        tree = plain_tree_octets([0, 1])
        letters = plain_signs_octets([3])
        ends = plain_row_octets([0, 1])
        self.same(read_store([4] + tree + letters + ends), ["d"])
        for parts in ((tree, ends, letters), (letters, tree, ends), (tree, letters), (tree, ends), (letters, ends),
                      (tree, tree, ends), (tree, letters, letters), (ends, letters, ends), (tree,), (),
                      (tree, letters, ends, ends), ([4], tree, letters, ends), ([1] + tree[1:], letters, ends),
                      (tree, [1] + letters[1:], ends), (tree, letters, [2] + ends[1:])):
            self.refused(NoOctets, read_store, [4] + [octet for part in parts for octet in part])


class Own(Case):
    def test_a_told_list_is_the_askers_own(self):
        for kind in KINDS:
            for thing in kind.few:
                octets = kind.plain(thing)
                told = kind.read(octets)
                kept = list(told)
                again = kind.read(octets)
                told.append(1)
                told[0] = 2
                self.same(again, kept)
                self.same(kind.read(octets), kept)
                octets.reverse()
                octets.append(0)
                self.same(again, kept)

    def test_in_any_order_and_as_often_as_you_like(self):
        for turn in range(3):
            for many in LENGTHS[:8]:
                bits = mixed_row(many, many + turn)
                self.same(read_row(row_octets(bits)), bits)
                signs = mixed_signs(many, 5, many + turn)
                self.same(read_signs(signs_octets(signs)), signs)
                depths = mixed_depths(many + 1, many + turn)
                self.same(read_tree(tree_octets(depths)), depths)
                self.refused(NoOctets, read_tree, row_octets(bits))


if __name__ == "__main__":
    unittest.main()
