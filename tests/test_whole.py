"""What is promised over the whole program: lists that stay and lists that are told, refusals, and answers that agree."""

import copy
import unittest

from tests.helper import (
    GREAT,
    SIGN_BOUND,
    Case,
    PlainStore,
    PlainTree,
    WatchedLook,
    full_words,
    mixed_depths,
    mixed_row,
    mixed_signs,
    mixed_words,
    plain_brackets,
    plain_row_octets,
    plain_signs_octets,
    plain_store_octets,
    plain_tree_octets,
    sample_stores,
)
from thinwood.blocks import look_of, packed, unpacked
from thinwood.brackets import closing, is_tree, kept_brackets, lowest, opening
from thinwood.errors import NoBit, NoNode, NoOctets, NoPlace, NoSign, NoTree, NoWord, TooMany, Twice
from thinwood.hands import Hand
from thinwood.heaps import cover, heap_of, least_of
from thinwood.octets import number_of, octets_of
from thinwood.rows import bit_at, kept_row, nought_place, noughts_at, one_place, ones_at
from thinwood.shapes import brackets_of, depths_of, kept_tree
from thinwood.signs import between, kept_signs, sign_at, sign_place, signs_ahead, so_manieth, unlike
from thinwood.stores import holds, kept_store, longest_in, node_of, stretch_of, word_at, words_ahead, words_in
from thinwood.trees import beneath_of, common_of, depth_of, elder_of, first_of, is_over, place_of, up_of, younger_of
from thinwood.walks import Late, Tips, Walk
from thinwood.written import (
    opened_tree,
    read_row,
    read_signs,
    read_store,
    read_tree,
    row_octets,
    signs_octets,
    store_octets,
    tree_octets,
)

BITS = mixed_row(70, 1)
DEPTHS = mixed_depths(40, 2)
NUMBERS = mixed_signs(20, 9, 3)
SIGNS = mixed_signs(70, 9, 4)
WORDS = mixed_words(40, "abz", 6, 5)

# Each function that is handed a list, with one that it takes and ones that it refuses.
OF_LISTS = (
    (packed, BITS, ([0, 2], [0] * 4097)),
    (kept_row, BITS, ([0, 2], [0] * 4097)),
    (heap_of, NUMBERS, ([0] * 4097,)),
    (is_tree, plain_brackets(DEPTHS), ()),
    (kept_brackets, plain_brackets(DEPTHS), ([0, 2], [0] * 4097, [1, 0, 0])),
    (brackets_of, DEPTHS, ([0, 2], [0] * 2049)),
    (depths_of, plain_brackets(DEPTHS), ([0, 2], [0] * 4097, [1, 0, 0])),
    (kept_tree, DEPTHS, ([0, 2], [0] * 2049)),
    (kept_signs, SIGNS, ([0, SIGN_BOUND], [0] * 4097)),
    (kept_store, WORDS, (["b", "A"], ["b", "a", "b"], ["zb"] + full_words())),
    (number_of, [1, 2, 3], ()),
    (row_octets, BITS, ([0, 2], [0] * 4097)),
    (tree_octets, DEPTHS, ([0, 2], [0] * 2049)),
    (signs_octets, SIGNS, ([0, SIGN_BOUND], [0] * 4097)),
    (store_octets, WORDS, (["b", "A"], ["b", "a", "b"], ["zb"] + full_words())),
    (read_row, plain_row_octets(BITS), ([1, 0, 0, 0, 1], [300], [])),
    (read_tree, plain_tree_octets(DEPTHS), ([1, 0, 0, 0, 1], [300], [])),
    (read_signs, plain_signs_octets(SIGNS), ([1, 0, 0, 0, 1], [300], [])),
    (read_store, plain_store_octets(WORDS), ([1, 0, 0, 0, 1], [300], [])),
    (opened_tree, plain_tree_octets(DEPTHS), ([1, 0, 0, 0, 1], [300], [])),
)

REFUSED = (TooMany, NoBit, NoTree, NoSign, NoWord, Twice, NoOctets)


def tellers():
    """Functions without arguments, each of which tells a list of the program anew."""
    tree = PlainTree(DEPTHS)
    look = look_of(tree.blocks)
    signs = kept_signs(SIGNS)
    signs_look = look_of(signs[1])
    store = kept_store(WORDS)
    store_look = look_of(store[1])
    row_written = plain_row_octets(BITS)
    tree_written = plain_tree_octets(DEPTHS)
    signs_written = plain_signs_octets(SIGNS)
    store_written = plain_store_octets(WORDS)
    walks = [Walk(tree.tables, look), Late(tree.tables, look), Tips(tree.tables, look)]
    return [
        lambda: packed(BITS), lambda: unpacked([5, 6, 7], 70), lambda: kept_row(BITS)[1], lambda: heap_of(NUMBERS),
        lambda: cover(20, 3, 17), lambda: kept_brackets(tree.bits)[1], lambda: brackets_of(DEPTHS),
        lambda: depths_of(tree.bits), lambda: kept_tree(DEPTHS)[1], walks[0].listed, walks[1].listed, walks[2].listed,
        lambda: kept_signs(SIGNS)[1], lambda: unlike(signs[0], signs_look, 3, 60), lambda: kept_store(WORDS)[1],
        lambda: words_in(store[0], store_look, 1, len(WORDS)), lambda: octets_of(1000, 3), lambda: row_octets(BITS),
        lambda: tree_octets(DEPTHS), lambda: signs_octets(SIGNS), lambda: store_octets(WORDS),
        lambda: read_row(row_written), lambda: read_tree(tree_written), lambda: read_signs(signs_written),
        lambda: read_store(store_written),
    ]


class Lists(Case):
    def test_what_is_handed_in_stays_as_it_was(self):
        for function, taken, others in OF_LISTS:
            handed = copy.deepcopy(taken)
            function(handed)
            self.same(handed, taken, function.__name__)

    def test_what_is_refused_stays_as_it_was(self):
        for function, taken, others in OF_LISTS:
            for other in others:
                handed = copy.deepcopy(other)
                self.assertRaises(REFUSED, function, handed)
                self.same(handed, other, function.__name__)

    def test_lists_that_are_none_of_the_last_asked(self):
        # What was refused, or asked of another list, leaves nothing behind.
        for function, taken, others in OF_LISTS:
            if function is opened_tree:
                continue
            first = function(list(taken))
            for other in others:
                self.assertRaises(REFUSED, function, list(other))
                self.same(function(list(taken)), first, function.__name__)

    def test_a_told_list_is_the_askers_own(self):
        for number, tell in enumerate(tellers()):
            told = tell()
            self.assertIs(list, type(told))
            kept = list(told)
            again = tell()
            told.append(1)
            told[0] = None
            told.reverse()
            self.same(again, kept, number)
            self.same(tell(), kept, number)

    def test_the_lists_of_this_file_are_as_they_were(self):
        for tell in tellers():
            tell()
        self.same(BITS, mixed_row(70, 1))
        self.same(DEPTHS, mixed_depths(40, 2))
        self.same(NUMBERS, mixed_signs(20, 9, 3))
        self.same(SIGNS, mixed_signs(70, 9, 4))
        self.same(WORDS, mixed_words(40, "abz", 6, 5))

    def test_tables_are_tuples_all_the_way_down(self):
        # So nothing that an asker does changes them.
        def hold(value):
            self.assertIn(type(value), (tuple, int, type(None)))
            for part in value if type(value) is tuple else ():
                hold(part)

        hold(kept_row(BITS)[0])
        hold(kept_tree(DEPTHS)[0])
        hold(kept_signs(SIGNS)[0])
        hold(kept_store(WORDS)[0])
        hold(opened_tree(tree_octets(DEPTHS))[0])


class Refusals(Case):
    def test_two_faults_at_once_in_the_order_told(self):
        many_words = full_words() + ["zb"]
        asked = (
            (TooMany, packed, [2] * 4097),
            (TooMany, kept_row, [0] * 4096 + [-1]),
            (TooMany, kept_brackets, [2] * 4097),
            (TooMany, kept_brackets, [0] * 4097),
            (NoBit, kept_brackets, [0, 2]),
            (NoBit, depths_of, [0, 2]),
            (TooMany, depths_of, [0] * 4096 + [2]),
            (TooMany, brackets_of, [1] * 2049),
            (TooMany, kept_tree, [0] * 2049),
            (TooMany, tree_octets, [0] * 2049),
            (TooMany, kept_signs, [GREAT] * 4097),
            (TooMany, signs_octets, [0] * 4096 + [-SIGN_BOUND]),
            (NoWord, kept_store, ["a", "a", "A"]),
            (NoWord, kept_store, many_words + ["a" * 41]),
            (Twice, kept_store, many_words + ["zb"]),
            (NoWord, store_octets, ["A", "A"] + many_words),
            (Twice, store_octets, ["zb"] + many_words),
            (TooMany, row_octets, [3] * 4097),
        )
        for refusal, function, handed in asked:
            self.refused(refusal, function, handed)

    def test_two_faults_at_once_of_a_question(self):
        tree = PlainTree(DEPTHS)
        signs = kept_signs(SIGNS)
        store = kept_store(WORDS)
        tree_look = WatchedLook(tree.blocks)
        signs_look = WatchedLook(signs[1])
        store_look = WatchedLook(store[1])
        for at in (-1, len(tree.bits), GREAT):
            self.refused(NoPlace, closing, tree.tables, tree_look, at)
            self.refused(NoPlace, opening, tree.tables, tree_look, at)
        self.refused(NoNode, closing, tree.tables, tree_look, len(tree.bits) - 1)
        self.refused(NoNode, opening, tree.tables, tree_look, 0)
        self.refused(NoNode, common_of, tree.tables, tree_look, -1, GREAT)
        self.refused(NoPlace, signs_ahead, signs[0], signs_look, GREAT, -1)
        self.refused(NoPlace, sign_place, signs[0], signs_look, GREAT, -1)
        self.refused(NoPlace, between, signs[0], signs_look, 5, 4, 9, 0)
        self.refused(NoPlace, so_manieth, signs[0], signs_look, 5, 4, -1)
        self.refused(NoPlace, words_in, store[0], store_look, GREAT, -1)


class Agreement(Case):
    def test_a_store_is_its_tree_its_letters_and_its_ends(self):
        for words in sample_stores():
            store = PlainStore(words)
            tree = kept_tree(store.depths)
            letters = kept_signs(store.letters)
            ends = kept_row(store.ends)
            self.same(kept_store(words), ((tree[0], letters[0], ends[0]), tree[1] + letters[1] + ends[1]))
            octets = tree_octets(store.depths) + signs_octets(store.letters) + row_octets(store.ends)
            self.same(store_octets(words), [4] + octets)

    def test_the_nodes_of_a_store_are_asked_for_as_those_of_a_tree(self):
        store = PlainStore(WORDS)
        tables, blocks = kept_store(WORDS)
        look = WatchedLook(blocks)
        for node, text in enumerate(store.texts):
            self.same(node_of(tables, look, text), node)
            self.same(depth_of(tables[0], look, node), len(text))
            self.same(elder_of(tables[0], look, node), store.nodes[text[:-1]] if text else None)
            first, behind = stretch_of(tables, look, text)
            beneath = beneath_of(tables[0], look, node)
            self.same(behind - first, sum(store.ends[node:node + beneath + 1]))

    def test_a_level_of_signs_is_a_row_of_bits(self):
        tables, blocks = kept_signs(SIGNS)
        long = (len(SIGNS) + 31) // 32
        ranks = [tables[1].index(sign) for sign in SIGNS]
        self.same([bit_at((tables[0], tables[2][0]), look_of(blocks[:long]), at) for at in range(len(SIGNS))],
                  [rank // 2 ** (len(tables[2]) - 1) for rank in ranks])

    def test_bits_asked_as_signs(self):
        for many in (33, 64, 100, 4096):
            bits = mixed_row(many, many)
            row = kept_row(bits)
            signs = kept_signs(bits)
            # Two kinds, so one level: the row itself.
            self.same(signs[1], row[1])
            self.same(signs[0], (many, (0, 1), (row[0][1],)))
            look = look_of(row[1])
            for at in range(0, many, many // 20):
                self.same(signs_ahead(signs[0], look, 1, at), ones_at(row[0], look, at))
                self.same(signs_ahead(signs[0], look, 0, at), noughts_at(row[0], look, at))
                self.same(sign_at(signs[0], look, at), bit_at(row[0], look, at))
            self.same(sign_place(signs[0], look, 1, 3), one_place(row[0], look, 3))
            self.same(sign_place(signs[0], look, 0, 3), nought_place(row[0], look, 3))

    def test_depths_asked_as_signs(self):
        depths = mixed_depths(300, 8, 70)
        tree = kept_tree(depths)
        look = look_of(tree[1])
        signs = kept_signs(depths)
        signs_look = look_of(signs[1])
        for node in range(0, 300, 7):
            self.same(depth_of(tree[0], look, node), sign_at(signs[0], signs_look, node))
            behind = node + beneath_of(tree[0], look, node) + 1
            # All that is beneath a node is deeper, and the next node behind that isn't.
            self.same(between(signs[0], signs_look, node, behind, -GREAT, depths[node]), 0)
            self.same(signs_ahead(signs[0], signs_look, depths[node], behind),
                      signs_ahead(signs[0], signs_look, depths[node], node) + 1)
            self.same(unlike(signs[0], signs_look, node, behind)[0], (depths[node], 1))

    def test_least_numbers_asked_of_a_heap_and_of_signs(self):
        numbers = mixed_signs(200, 50, 9)
        heap_look = look_of(heap_of(numbers))
        tables, blocks = kept_signs(numbers)
        look = look_of(blocks)
        for start in range(0, 200, 9):
            for stop in range(start + 1, 201, 17):
                self.same(least_of(200, heap_look, start, stop), so_manieth(tables, look, start, stop, 0))

    def test_trees_kept_and_opened_answer_alike(self):
        for depths in ([0], DEPTHS, mixed_depths(500, 6, 80)):
            kept = kept_tree(depths)
            opened = opened_tree(tree_octets(depths))
            self.same(opened[0], kept[0])
            look = look_of(kept[1])
            for node in range(0, len(depths), len(depths) // 40 + 1):
                for question in (place_of, depth_of, elder_of, first_of, younger_of, beneath_of):
                    self.same(question(opened[0], opened[1], node), question(kept[0], look, node))
                self.same(up_of(opened[0], opened[1], node, 2), up_of(kept[0], look, node, 2))
                self.same(is_over(opened[0], opened[1], 0, node), True)
            self.same(Late(opened[0], opened[1]).listed(), Late(kept[0], look).listed())
            self.same(lowest(opened[0], opened[1], 0, 1), 1)

    def test_a_hand_goes_round_an_opened_tree(self):
        for depths in ([0], [0, 1], DEPTHS):
            plain = PlainTree(depths)
            tables, look = opened_tree(tree_octets(depths))
            hand = Hand(tables, look)
            told = [(hand.node(), hand.is_opening())] + [hand.step() for k in range(len(plain.bits))]
            self.same(told, plain.brackets + plain.brackets[:1])
            back = [hand.step_back() for k in range(len(plain.bits))]
            self.same(back, plain.brackets[::-1])

    def test_written_read_and_written_again(self):
        for seed in range(12):
            many = seed * 31 % 97 + 1
            bits = mixed_row(many, seed)
            self.same(read_row(row_octets(bits)), bits)
            self.same(row_octets(read_row(row_octets(bits))), row_octets(bits))
            depths = mixed_depths(many, seed, 40 + 5 * seed)
            self.same(read_tree(tree_octets(depths)), depths)
            self.same(tree_octets(read_tree(tree_octets(depths))), tree_octets(depths))
            signs = mixed_signs(many, seed + 1, seed)
            self.same(read_signs(signs_octets(signs)), signs)
            self.same(signs_octets(read_signs(signs_octets(signs))), signs_octets(signs))
            words = mixed_words(many, "adz", 9, seed)
            self.same(read_store(store_octets(words)), sorted(words))
            self.same(store_octets(read_store(store_octets(words))), store_octets(words))

    def test_stores_asked_in_turn_do_not_meddle_with_each_other(self):
        stores = [kept_store(words) for words in (["a", "bc"], ["b", "ac"], [], WORDS)]
        looks = [WatchedLook(blocks) for tables, blocks in stores]
        plain = [PlainStore(words) for words in (["a", "bc"], ["b", "ac"], [], WORDS)]
        for turn in range(40):
            for (tables, blocks), look, store in zip(stores, looks, plain, strict=True):
                for text in ("", "a", "b", "ac", "bc", "bcd", "z"):
                    self.same(holds(tables, look, text), text in store.words)
                    self.same(words_ahead(tables, look, text), store.ahead(text))
                    self.same(longest_in(tables, look, text), store.longest(text))
                if store.words:
                    nth = turn % len(store.words)
                    self.same(word_at(tables, look, nth), store.words[nth])


if __name__ == "__main__":
    unittest.main()
