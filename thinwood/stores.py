"""Stores of words: the tree of the words' beginnings, with each node's last letter and whether it is a word."""

from thinwood.blocks import look_from
from thinwood.errors import NoWord, Twice
from thinwood.heaps import check_stretch
from thinwood.rows import bit_at, kept_row, one_place, ones_at
from thinwood.shapes import kept_tree
from thinwood.signs import kept_signs, sign_at
from thinwood.trees import beneath_of, depth_of, elder_of, first_of, younger_of

LETTERS = "abcdefghijklmnopqrstuvwxyz"
MOST_LETTERS = 40


def check_words(words):
    for word in words:
        if len(word) > MOST_LETTERS:
            raise NoWord("a word has at most forty letters")
        for letter in word:
            if letter not in LETTERS:
                raise NoWord("a letter is from a to z")
    if len(set(words)) < len(words):
        raise Twice("a word stands once in a store")


def beginnings_of(words):
    texts = [""]
    for word in words:
        texts.extend([word[:upto] for upto in range(1, len(word) + 1)])
    return sorted(set(texts))


def parts_of(words):
    # The depths, the letters and the ends of the nodes.
    check_words(words)
    texts = beginnings_of(words)
    depths = [len(text) for text in texts]
    letters = [LETTERS.index(text[-1]) for text in texts[1:]]
    whole = {}
    for word in words:
        whole[word] = True
    ends = [1 if text in whole else 0 for text in texts]
    return (depths, letters, ends)


def words_of(depths, letters, ends):
    texts = [""]
    for depth, letter in zip(depths[1:], letters):
        if not 0 <= letter < len(LETTERS):
            raise NoWord("a letter is from a to z")
        texts.append(text_below(texts[-1], depth, LETTERS[letter]))
    return [text for text, end in zip(texts, ends) if end == 1]


def text_below(ahead, depth, letter):
    # A node's elder is over the node ahead or is this node, whose text so begins with the elder's.
    return ahead[:depth - 1] + letter


def kept_store(words):
    parts = parts_of(words)
    tree = kept_tree(parts[0])
    letters = kept_signs(parts[1])
    ends = kept_row(parts[2])
    return ((tree[0], letters[0], ends[0]), tree[1] + letters[1] + ends[1])


def blocks_of_tree(tables):
    return len(tables[0][1]) - 1


def blocks_of_letters(tables):
    return sum([len(ahead) - 1 for ahead in tables[1][2]])


def letter_of(tables, look, node):
    # The root has no letter.
    return LETTERS[sign_at(tables[1], look_from(look, blocks_of_tree(tables)), node - 1)]


def look_at_ends(tables, look):
    return look_from(look, blocks_of_tree(tables) + blocks_of_letters(tables))


def is_end(tables, look, node):
    return bit_at(tables[2], look_at_ends(tables, look), node) == 1


def words_to(tables, look, node):
    # The texts of the nodes are sorted by their numbers: ahead of a node stand just the words ahead of its text.
    return ones_at(tables[2], look_at_ends(tables, look), node)


def end_node(tables, look, nth):
    return one_place(tables[2], look_at_ends(tables, look), nth)


def word_count(tables):
    return tables[2][1][-1]


def young_from(tables, look, node, letter):
    young = first_of(tables[0], look, node)
    while young is not None and letter_of(tables, look, young) < letter:
        young = younger_of(tables[0], look, young)
    return young


def line_of(tables, look, text):
    # The nodes of the text's beginnings, from the root on and as far as the tree has them.
    nodes = [0]
    for letter in text:
        young = young_from(tables, look, nodes[-1], letter)
        if young is None or letter_of(tables, look, young) != letter:
            return nodes
        nodes.append(young)
    return nodes


def node_of(tables, look, text):
    nodes = line_of(tables, look, text)
    if len(nodes) <= len(text):
        return None
    return nodes[-1]


def node_behind(tables, look, node):
    return node + beneath_of(tables[0], look, node) + 1


def first_not_ahead(tables, look, text):
    # The number of the first node whose text doesn't come ahead of this one; that of all nodes where there is none.
    nodes = line_of(tables, look, text)
    last = nodes[-1]
    if len(nodes) > len(text):
        return last
    young = young_from(tables, look, last, text[len(nodes) - 1])
    if young is None:
        return node_behind(tables, look, last)
    return young


def holds(tables, look, text):
    node = node_of(tables, look, text)
    return node is not None and is_end(tables, look, node)


def words_ahead(tables, look, text):
    return words_to(tables, look, first_not_ahead(tables, look, text))


def text_of(tables, look, node):
    letters = []
    up = node
    for step in range(depth_of(tables[0], look, node)):
        letters.append(letter_of(tables, look, up))
        up = elder_of(tables[0], look, up)
    return "".join(reversed(letters))


def word_at(tables, look, nth):
    return text_of(tables, look, end_node(tables, look, nth))


def stretch_of(tables, look, text):
    node = node_of(tables, look, text)
    if node is None:
        ahead = words_ahead(tables, look, text)
        return (ahead, ahead)
    return (words_to(tables, look, node), words_to(tables, look, node_behind(tables, look, node)))


def words_in(tables, look, start, stop):
    check_stretch(word_count(tables), start, stop)
    if start == stop:
        return []
    first = end_node(tables, look, start)
    text = text_of(tables, look, first)
    words = [text]
    for node in range(first + 1, end_node(tables, look, stop - 1) + 1):
        text = text_below(text, depth_of(tables[0], look, node), letter_of(tables, look, node))
        if is_end(tables, look, node):
            words.append(text)
    return words


def longest_in(tables, look, text):
    for length, node in reversed(list(enumerate(line_of(tables, look, text)))):
        if is_end(tables, look, node):
            return text[:length]
    return None
