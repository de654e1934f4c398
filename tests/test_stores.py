import inspect
import unittest

from tests.helper import (
    GREAT,
    LETTERS,
    Case,
    PlainStore,
    WatchedLook,
    full_words,
    great_stores,
    mixed_words,
    plain_node_count,
    sample_stores,
)
from thinwood import stores as module
from thinwood.blocks import look_of
from thinwood.errors import NoPlace, NoWord, TooMany, Twice
from thinwood.stores import holds, kept_store, longest_in, node_of, stretch_of, word_at, words_ahead, words_in

# Signs of texts that may be handed in but are no letters, those right beside a and z among them.
NO_LETTERS = " \n`{~@[AZaZ09-_.'"

OF_TEXT = (node_of, holds, words_ahead, stretch_of, longest_in)


def plain_answers(store, text):
    return (store.nodes.get(text), text in store.words, store.ahead(text), store.stretch(text), store.longest(text))


def asked_texts(store, most):
    """Texts of nodes and others near them: cut, gone on with, with another letter; of a hundred letters and of none."""
    texts = {"", "a", "z", "m", "aa", "zz", "a" * 40, "z" * 40, "a" * 100, "z" * 100, "mn" * 50, "a" * 39 + "b"}
    for text in store.texts[::max(len(store.texts) // most, 1)] + store.texts[-1:]:
        texts.update([text, text + "a", text + "z", text + "m", text[:-1], text[1:], (text + "q" * 100)[:100]])
        for letter in "amz":
            texts.update([text[:-1] + letter, letter + text[1:]])
        if text:
            near = LETTERS.index(text[-1])
            texts.update([text[:-1] + LETTERS[max(near - 1, 0)], text[:-1] + LETTERS[min(near + 1, 25)]])
    for word in store.words[::max(len(store.words) // most, 1)]:
        texts.update([word, word + "a", word + "zzz", (word + "b" * 100)[:100]])
    return sorted(texts)


class Interface(Case):
    def test_names_and_arguments(self):
        told = {
            "kept_store": ["words"],
            "node_of": ["tables", "look", "text"],
            "holds": ["tables", "look", "text"],
            "words_ahead": ["tables", "look", "text"],
            "word_at": ["tables", "look", "nth"],
            "stretch_of": ["tables", "look", "text"],
            "words_in": ["tables", "look", "start", "stop"],
            "longest_in": ["tables", "look", "text"],
        }
        for name, arguments in told.items():
            self.assertEqual(arguments, list(inspect.signature(getattr(module, name)).parameters), name)


class KeptStore(Case):
    def test_tables_and_blocks_as_the_plain_walk_tells(self):
        for words in list(sample_stores()) + list(great_stores()):
            store = PlainStore(words)
            self.same(kept_store(words), (store.tables, store.blocks))

    def test_in_any_order(self):
        for words in sample_stores():
            store = PlainStore(words)
            for order in (sorted(words), sorted(words, reverse=True), words[::2] + words[1::2]):
                self.same(kept_store(order), (store.tables, store.blocks))

    def test_written_out(self):
        # The root alone: brackets 1 0, no letter, and no end.
        self.same(kept_store([]), (((2, (0, 1), (None, 0)), (0, (), ()), (1, (0, 0))), [1, 0]))
        self.same(kept_store([""]), (((2, (0, 1), (None, 0)), (0, (), ()), (1, (0, 1))), [1, 1]))
        self.same(kept_store(["c"]), (((4, (0, 2), (None, 0)), (1, (2,), ()), (2, (0, 1))), [3, 2]))
        # The root, b, ba, z: brackets 1 1 1 0 0 1 0 0, letters 1 0 25 of the ranks 1 0 2, ends 0 0 1 1.
        told = (((8, (0, 4), (None, 0)), (3, (0, 1, 25), ((0, 1), (0, 1))), (4, (0, 2))), [39, 4, 1, 12])
        self.same(kept_store(["z", "ba"]), told)

    def test_just_as_many_nodes_as_there_may_be(self):
        words = full_words()
        self.assertEqual(2048, plain_node_count(words))
        tables, blocks = kept_store(words)
        self.same((tables[0][0], tables[1][0], tables[2][0]), (4096, 2047, 2048))
        for more in ("z" + "a" * 33, "zb", "zab", words[0][:39] + "b"):
            self.assertEqual(2049, plain_node_count(words + [more]))
            self.refused(TooMany, kept_store, words + [more])
            self.refused(TooMany, kept_store, [more] + words)
        # A word that is a beginning of another one takes no node.
        self.same(kept_store(words + ["z", "", "za"])[0][0], tables[0])

    def test_too_many_nodes(self):
        self.refused(TooMany, kept_store, [one + other + third for one in LETTERS for other in LETTERS
                                           for third in "abc"])
        self.refused(TooMany, kept_store, [one + other * 39 for one in LETTERS for other in LETTERS])

    def test_words_of_forty_letters_and_one_more(self):
        for letters in ("a" * 40, "z" * 40, "ab" * 20, (LETTERS + LETTERS)[:40]):
            self.same(kept_store([letters])[0][2][0], 41)
            for more in ("a", "z", "abc", "q" * 60):
                self.refused(NoWord, kept_store, [letters + more])
                self.refused(NoWord, kept_store, ["a", "b", letters + more])
                self.refused(NoWord, kept_store, [letters + more, letters])

    def test_words_with_other_signs(self):
        for sign in NO_LETTERS:
            if sign not in LETTERS:
                for text in (sign, "a" + sign, sign + "a", "ab" + sign + "cd", "a" * 39 + sign, sign * 40, sign * 41):
                    self.refused(NoWord, kept_store, [text])
                    self.refused(NoWord, kept_store, ["a", "b", text])
                    self.refused(NoWord, kept_store, [text, "", "a"])

    def test_words_that_stand_twice(self):
        for words in (["", ""], ["a", "a"], ["a", "b", "a"], ["ab", "abc", "", "ab"], ["q" * 40, "q" * 40]):
            self.refused(Twice, kept_store, words)
        for words in sample_stores():
            if words:
                self.refused(Twice, kept_store, words + [words[0]])
                self.refused(Twice, kept_store, [words[-1]] + words)

    def test_the_order_of_refusals(self):
        many = full_words() + ["zb"]
        self.refused(TooMany, kept_store, many)
        self.refused(Twice, kept_store, many + ["zb"])
        self.refused(Twice, kept_store, [many[3]] + many)
        for wrong in ("A", "a" * 41, "a b", "\n"):
            self.refused(NoWord, kept_store, ["a", "a", wrong])
            self.refused(NoWord, kept_store, [wrong, "a", "a"])
            self.refused(NoWord, kept_store, [wrong, wrong])
            self.refused(NoWord, kept_store, many + [wrong])
            self.refused(NoWord, kept_store, [wrong] + many)
            self.refused(NoWord, kept_store, [many[0]] + many + [wrong])

    def test_the_words_stay_as_they_were(self):
        for words in sample_stores():
            before = list(words)
            kept_store(words)
            self.same(words, before)

    def test_the_told_list_is_the_askers_own(self):
        for words in sample_stores():
            store = PlainStore(words)
            told = kept_store(words)
            told[1].append(1)
            told[1][0] = 77
            self.same(kept_store(words), (store.tables, store.blocks))
            again = kept_store(words)
            words.append("yyy")
            words[0] = "x"
            self.same(again, (store.tables, store.blocks))


class Questions(Case):
    def hold_text(self, store, look, text):
        for question, answer in zip(OF_TEXT, plain_answers(store, text), strict=True):
            told = question(store.tables, look, text)
            if told != answer:
                self.fail((question.__name__, store.words, text, told, answer))
            self.same(told, answer)

    def hold_stretch(self, store, look, start, stop):
        self.same(words_in(store.tables, look, start, stop), store.words[start:stop])

    def hold_numbers(self, store, look, numbers):
        for nth in numbers:
            self.same(word_at(store.tables, look, nth), store.words[nth])

    def test_stores_of_few_words(self):
        for words in sample_stores():
            store = PlainStore(words)
            look = WatchedLook(store.blocks)
            many = len(store.words)
            for text in asked_texts(store, 24):
                self.hold_text(store, look, text)
            self.hold_numbers(store, look, range(many))
            for start in range(0, many + 1, many // 9 + 1):
                for stop in list(range(start, many + 1, many // 9 + 1)) + [many]:
                    self.hold_stretch(store, look, start, stop)

    def test_stores_of_many_words(self):
        for words in great_stores():
            store = PlainStore(words)
            look = WatchedLook(store.blocks)
            many = len(store.words)
            for text in asked_texts(store, 5):
                self.hold_text(store, look, text)
            self.hold_numbers(store, look, {0, 1, many // 3, many // 2, many - 2, many - 1})
            for start, stop in ((0, many), (many // 2, many // 2 + 20), (many - 1, many), (many, many), (5, 5)):
                self.hold_stretch(store, look, start, stop)

    def test_every_text_of_up_to_three_letters(self):
        letters = "abyz"
        texts = [""]
        for length in range(3):
            texts += [text + letter for text in texts if len(text) == length for letter in letters]
        for seed in range(6):
            store = PlainStore([text for k, text in enumerate(texts) if k * (seed + 7) % 11 < 3])
            look = WatchedLook(store.blocks)
            for text in texts:
                self.hold_text(store, look, text)

    def test_a_store_without_words(self):
        store = PlainStore([])
        look = WatchedLook(store.blocks)
        for text in ("", "a", "z", "abc", "q" * 100):
            self.same(node_of(store.tables, look, text), 0 if text == "" else None)
            self.same(holds(store.tables, look, text), False)
            self.same(words_ahead(store.tables, look, text), 0)
            self.same(stretch_of(store.tables, look, text), (0, 0))
            self.same(longest_in(store.tables, look, text), None)
        self.same(words_in(store.tables, look, 0, 0), [])
        self.refused(NoPlace, word_at, store.tables, look, 0)

    def test_the_word_without_letters_alone(self):
        store = PlainStore([""])
        look = WatchedLook(store.blocks)
        self.same(holds(store.tables, look, ""), True)
        self.same(word_at(store.tables, look, 0), "")
        self.same(words_in(store.tables, look, 0, 1), [""])
        self.same(stretch_of(store.tables, look, ""), (0, 1))
        self.same(words_ahead(store.tables, look, ""), 0)
        for text in ("a", "z", "abc", "q" * 100):
            self.same(holds(store.tables, look, text), False)
            self.same(words_ahead(store.tables, look, text), 1)
            self.same(stretch_of(store.tables, look, text), (1, 1))
            self.same(longest_in(store.tables, look, text), "")
        self.refused(NoPlace, word_at, store.tables, look, 1)

    def test_written_out(self):
        tables, blocks = kept_store(["bean", "be", "a", "beat", "cat"])
        look = WatchedLook(blocks)
        texts = ["", "a", "b", "be", "bea", "bean", "beans", "beat", "bed", "c", "cat", "d", "aa", "bd"]
        told = [node_of(tables, look, text) for text in texts]
        self.same(told, [0, 1, 2, 3, 4, 5, None, 6, None, 7, 9, None, None, None])
        told = [holds(tables, look, text) for text in texts]
        self.same(told, [False, True, False, True, False, True, False, True, False, False, True, False, False, False])
        told = [words_ahead(tables, look, text) for text in texts]
        self.same(told, [0, 0, 1, 1, 2, 2, 3, 3, 4, 4, 4, 5, 1, 1])
        told = [stretch_of(tables, look, text) for text in texts[:9]]
        self.same(told, [(0, 5), (0, 1), (1, 4), (1, 4), (2, 4), (2, 3), (3, 3), (3, 4), (4, 4)])
        told = [longest_in(tables, look, text) for text in texts]
        self.same(told, [None, "a", None, "be", "be", "bean", "bean", "beat", "be", None, "cat", None, "a", None])
        self.same([word_at(tables, look, nth) for nth in range(5)], ["a", "be", "bean", "beat", "cat"])
        self.same(words_in(tables, look, 1, 4), ["be", "bean", "beat"])

    def test_answers_agree_with_each_other(self):
        for words in sample_stores():
            tables, blocks = kept_store(words)
            look = WatchedLook(blocks)
            for nth in range(0, len(words), len(words) // 30 + 1):
                word = word_at(tables, look, nth)
                self.same(words_ahead(tables, look, word), nth)
                self.same(holds(tables, look, word), True)
                self.same(longest_in(tables, look, word), word)
                first, behind = stretch_of(tables, look, word)
                self.same(first, nth)
                told = words_in(tables, look, first, behind)
                self.same(told[0], word)
                self.assertTrue(all(other.startswith(word) for other in told))
            self.same(stretch_of(tables, look, ""), (0, len(words)))

    def test_in_any_order_and_as_often_as_you_like(self):
        store = PlainStore(mixed_words(80, "abc", 6, 9))
        look = WatchedLook(store.blocks)
        texts = asked_texts(store, 10)
        for step in (7, 11):
            for turn in range(60):
                self.hold_text(store, look, texts[turn * step % len(texts)])
                nth = turn * step % len(store.words)
                self.same(word_at(store.tables, look, nth), store.words[nth])
                self.refused(NoPlace, word_at, store.tables, look, len(store.words))

    def test_stores_with_the_same_tables_are_told_apart(self):
        # These differ behind the look alone.
        one = ["ab", "b"]
        other = ["a", "bb"]
        third = ["a", "ab", "b"]
        self.assertEqual(kept_store(one)[0][2], kept_store(other)[0][2])
        for words in (one, other, one, third, other):
            tables, blocks = kept_store(words)
            self.same(words_in(tables, WatchedLook(blocks), 0, len(words)), words)


class Refusals(Case):
    def stores(self):
        for words in sample_stores():
            yield PlainStore(words)

    def wrong_numbers(self, many):
        beyond = [many, many + 1, many + 31, many + 32, 2 * many + 2, 5000, 2 ** 32, 10 ** 40, GREAT]
        return beyond + [-1, -2, -32, -33, -many - 1, -5000, -(2 ** 32), -GREAT]

    def test_numbers_of_words(self):
        for store in self.stores():
            look = WatchedLook(store.blocks)
            for nth in self.wrong_numbers(len(store.words)):
                self.refused(NoPlace, word_at, store.tables, look, nth)

    def test_stretches_of_words(self):
        for store in self.stores():
            look = WatchedLook(store.blocks)
            many = len(store.words)
            wrong = [(0, stop) for stop in self.wrong_numbers(many + 1)]
            wrong += [(start, many) for start in self.wrong_numbers(many + 1)]
            wrong += [(at, at) for at in self.wrong_numbers(many + 1)]
            wrong += [(1, 0), (many, many - 1), (many + 1, many), (GREAT, -GREAT), (-GREAT, GREAT), (many + 1, many + 2)]
            # Both are there, but the first one stands behind the other one.
            wrong += [(start, stop) for start in range(min(many, 9) + 1) for stop in range(start)]
            for start, stop in wrong:
                self.refused(NoPlace, words_in, store.tables, look, start, stop)


class Own(Case):
    def test_changed_lists_change_no_later_answer_and_questions_change_nothing(self):
        for words in sample_stores():
            store = PlainStore(words)
            if len(store.texts) > 130:
                continue
            handed = list(words)
            tables, blocks = kept_store(handed)
            look = look_of(blocks)
            blocks.reverse()
            blocks.append(5)
            handed.append("a")
            for text in asked_texts(store, 10):
                for question, answer in zip(OF_TEXT, plain_answers(store, text), strict=True):
                    self.same(question(tables, look, text), answer)
            self.same(words_in(tables, look, 0, len(words)), store.words)
            self.same(tables, store.tables)
            self.same(blocks, store.blocks[::-1] + [5])
            self.same(handed, words + ["a"])

    def test_a_told_list_of_words_is_the_askers_own(self):
        for words in sample_stores():
            tables, blocks = kept_store(words)
            look = WatchedLook(blocks)
            for start, stop in ((0, len(words)), (0, len(words) // 2), (len(words), len(words))):
                told = words_in(tables, look, start, stop)
                told.append("a")
                told[0] = "other"
                self.same(words_in(tables, look, start, stop), sorted(words)[start:stop])


if __name__ == "__main__":
    unittest.main()
