import inspect
import unittest

from tests.helper import GREAT, Case, PlainTree, WatchedLook, all_trees, mixed_depths, numbers_from, sample_trees
from thinwood.blocks import look_of
from thinwood.errors import NoNode
from thinwood.hands import Hand
from thinwood.shapes import kept_tree

FEW = (1, 2, 3, 15, 16, 17, 31, 32, 33, 48)
MANY = (64, 65, 255, 256, 257, 1024, 2047, 2048)

MOVES = ("to_elder", "to_first", "to_younger", "to_older")
DEEDS = ("step", "step_back", "turn") + MOVES


class PlainHand:
    """The same as a hand, by the plain list of a tree's brackets."""

    def __init__(self, tree):
        self.tree = tree
        self.place = 0

    def told(self):
        return self.tree.brackets[self.place]

    def step(self):
        self.place = self.place + 1 if self.place + 1 < len(self.tree.brackets) else 0
        return self.told()

    def step_back(self):
        self.place = (self.place if self.place > 0 else len(self.tree.brackets)) - 1
        return self.told()

    def turn(self):
        node, is_opening = self.told()
        self.place = self.tree.closings[node] if is_opening else self.tree.openings[node]
        return self.told()

    def to_elder(self):
        return self.go(self.tree.elders[self.told()[0]])

    def to_first(self):
        return self.go(self.tree.first(self.told()[0]))

    def to_younger(self):
        return self.go(self.tree.younger[self.told()[0]])

    def to_older(self):
        return self.go(self.tree.older[self.told()[0]])

    def to_node(self, node):
        return self.go(node)

    def go(self, node):
        if node is None:
            return False
        self.place = self.tree.openings[node]
        return True


class HandCase(Case):
    def at(self, tree, place):
        """A hand at a bracket, and the look behind it."""
        look = WatchedLook(tree.blocks)
        hand = Hand(tree.tables, look)
        node, is_opening = tree.brackets[place]
        hand.to_node(node)
        if not is_opening:
            hand.turn()
        return hand, look

    def do(self, hand, look, deed, *asked_for):
        """What the deed tells, with no more blocks looked at than told."""
        look.seen.clear()
        told = getattr(hand, deed)(*asked_for)
        self.assertLessEqual(len(look.seen), 16, deed)
        return told

    def hold(self, hand, look, bracket):
        self.same((self.do(hand, look, "node"), self.do(hand, look, "is_opening")), bracket)

    def hold_deed(self, tree, place, deed, *asked_for):
        hand, look = self.at(tree, place)
        plain = PlainHand(tree)
        plain.place = place
        self.same(self.do(hand, look, deed, *asked_for), getattr(plain, deed)(*asked_for), (deed, place, tree.bits))
        self.hold(hand, look, plain.told())


def trees_of_each_kind():
    for depths in sample_trees(FEW + MANY):
        yield PlainTree(depths)


def places_of(tree):
    """The places of both brackets of some nodes."""
    nodes = tree.picked(20)
    return sorted([tree.openings[node] for node in nodes] + [tree.closings[node] for node in nodes])


class Interface(Case):
    def test_names_and_arguments(self):
        self.assertEqual(["tables", "look"], list(inspect.signature(Hand).parameters))
        for name in ("node", "is_opening") + DEEDS:
            self.assertEqual(["self"], list(inspect.signature(getattr(Hand, name)).parameters), name)
        self.assertEqual(["self", "node"], list(inspect.signature(Hand.to_node).parameters))


class Made(HandCase):
    def test_it_stands_at_the_roots_opening_bracket(self):
        for tree in trees_of_each_kind():
            look = WatchedLook(tree.blocks)
            hand = Hand(tree.tables, look)
            self.assertLessEqual(len(look.seen), 16)
            self.hold(hand, look, (0, True))


class Steps(HandCase):
    def test_round_the_whole_tree(self):
        for tree in trees_of_each_kind():
            if tree.count <= 257 or tree.count == 2048:
                self.hold_round(tree, "step", tree.brackets[1:] + tree.brackets[:1])
                self.hold_round(tree, "step_back", tree.brackets[::-1])

    def hold_round(self, tree, deed, brackets):
        look = WatchedLook(tree.blocks)
        hand = Hand(tree.tables, look)
        for bracket in brackets:
            told = self.do(hand, look, deed)
            if told != bracket or type(told) is not tuple:
                self.fail((deed, tree.bits, told, bracket))
        self.hold(hand, look, (0, True))

    def test_round_from_anywhere(self):
        for depths in sample_trees((1, 2, 16, 17)):
            tree = PlainTree(depths)
            for place in range(len(tree.brackets)):
                for deed in ("step", "step_back"):
                    hand, look = self.at(tree, place)
                    seen = []
                    for bracket in tree.brackets:
                        seen.append(self.do(hand, look, deed))
                    self.assertEqual(sorted(tree.brackets), sorted(seen))
                    self.hold(hand, look, tree.brackets[place])

    def test_from_the_last_bracket_to_the_first_and_back(self):
        for tree in trees_of_each_kind():
            hand, look = self.at(tree, 0)
            self.same(self.do(hand, look, "step_back"), (0, False))
            self.hold(hand, look, (0, False))
            self.same(self.do(hand, look, "step"), (0, True))
            self.hold(hand, look, (0, True))

    def test_steps_and_turns_at_each_place(self):
        for tree in trees_of_each_kind():
            for place in places_of(tree):
                for deed in ("step", "step_back", "turn"):
                    self.hold_deed(tree, place, deed)

    def test_undone(self):
        for tree in trees_of_each_kind():
            for place in places_of(tree):
                for deed, back in (("step", "step_back"), ("step_back", "step"), ("turn", "turn")):
                    hand, look = self.at(tree, place)
                    self.do(hand, look, deed)
                    self.same(self.do(hand, look, back), tree.brackets[place])
                    self.hold(hand, look, tree.brackets[place])


class Moves(HandCase):
    def test_each_small_tree(self):
        for many in range(1, 7):
            for tree in map(PlainTree, all_trees(many)):
                for place in range(len(tree.brackets)):
                    for deed in DEEDS:
                        self.hold_deed(tree, place, deed)
                    for node in range(many):
                        self.hold_deed(tree, place, "to_node", node)

    def test_from_opening_and_closing_brackets(self):
        for tree in trees_of_each_kind():
            for place in places_of(tree):
                for deed in MOVES:
                    self.hold_deed(tree, place, deed)

    def test_to_a_node_by_its_number(self):
        for tree in trees_of_each_kind():
            hand, look = self.at(tree, 0)
            for node in tree.picked(20):
                # Once to its opening bracket, and once more from its closing one.
                for turn in range(2):
                    self.same(self.do(hand, look, "to_node", node), True)
                    self.hold(hand, look, (node, True))
                    hand.turn()

    def test_where_there_is_no_such_node_it_stays(self):
        for tree in trees_of_each_kind():
            tip = tree.young.index([])
            lasts = [tree.young[node][-1] for node in range(tree.count) if tree.young[node]][:3]
            firsts = [tree.young[node][0] for node in range(tree.count) if tree.young[node]][:3]
            stays = [(0, "to_elder"), (0, "to_younger"), (0, "to_older"), (tip, "to_first")]
            stays += [(node, "to_younger") for node in lasts] + [(node, "to_older") for node in firsts]
            for node, deed in stays:
                for place in (tree.openings[node], tree.closings[node]):
                    hand, look = self.at(tree, place)
                    for turn in range(3):
                        self.same(self.do(hand, look, deed), False)
                        self.hold(hand, look, tree.brackets[place])

    def test_undone(self):
        for tree in trees_of_each_kind():
            for node in tree.picked(20):
                self.hold_undone(tree, node, "to_first", "to_elder")
                self.hold_undone(tree, node, "to_younger", "to_older")
                self.hold_undone(tree, node, "to_older", "to_younger")

    def hold_undone(self, tree, node, deed, back):
        hand, look = self.at(tree, tree.openings[node])
        if self.do(hand, look, deed):
            self.assertNotEqual(node, hand.node())
            self.same(self.do(hand, look, back), True)
        self.hold(hand, look, (node, True))

    def test_no_such_number(self):
        for tree in trees_of_each_kind():
            for place in {0, tree.openings[-1], tree.closings[tree.count // 2], len(tree.brackets) - 1}:
                hand, look = self.at(tree, place)
                for node in tree.no_nodes():
                    look.seen.clear()
                    self.refused(NoNode, hand.to_node, node)
                    self.assertLessEqual(len(look.seen), 16)
                    if node in (-1, tree.count, GREAT):
                        self.hold(hand, look, tree.brackets[place])
                self.hold(hand, look, tree.brackets[place])


class Many(HandCase):
    def test_many_deeds_one_behind_the_other(self):
        for many, deeper in ((1, 50), (2, 50), (17, 50), (60, 80), (300, 90), (2048, 60), (2048, 98)):
            tree = PlainTree(mixed_depths(many, many, deeper))
            look = WatchedLook(tree.blocks)
            hand = Hand(tree.tables, look)
            plain = PlainHand(tree)
            source = numbers_from(many + deeper)
            for turn in range(600):
                kind = next(source) % (len(DEEDS) + 1)
                if kind == len(DEEDS):
                    node = next(source) % many
                    self.same(self.do(hand, look, "to_node", node), plain.to_node(node))
                else:
                    self.same(self.do(hand, look, DEEDS[kind]), getattr(plain, DEEDS[kind])())
                self.hold(hand, look, plain.told())

    def test_one_hand_moves_no_other_one(self):
        tree = PlainTree(mixed_depths(200, 9, 70))
        look = look_of(tree.blocks)
        hands = [Hand(tree.tables, look) for k in range(3)]
        plains = [PlainHand(tree) for k in range(3)]
        source = numbers_from(1)
        for turn in range(400):
            which = next(source) % 3
            node = next(source) % tree.count
            deed = DEEDS[next(source) % len(DEEDS)]
            if turn % 5 == 0:
                self.same(hands[which].to_node(node), plains[which].to_node(node))
            self.same(getattr(hands[which], deed)(), getattr(plains[which], deed)())
            for hand, plain in zip(hands, plains):
                self.same((hand.node(), hand.is_opening()), plain.told())
        # Nor does one that is made later, or moved then.
        later = Hand(tree.tables, look)
        self.same((later.node(), later.is_opening()), (0, True))
        later.step()
        self.same(later.step(), tree.brackets[2])
        for hand, plain in zip(hands, plains):
            self.same((hand.node(), hand.is_opening()), plain.told())

    def test_hands_at_trees_with_the_same_tables(self):
        # These differ behind the look alone.
        one = kept_tree([0, 1, 1, 2])
        other = kept_tree([0, 1, 2, 1])
        self.assertEqual(one[0], other[0])
        first = Hand(one[0], look_of(one[1]))
        second = Hand(other[0], look_of(other[1]))
        for hand in (first, second):
            hand.to_node(2)
        self.same((first.to_first(), first.node()), (True, 3))
        self.same((second.to_first(), second.node()), (False, 2))

    def test_what_is_handed_in_stays_and_its_later_change_changes_nothing(self):
        for depths in sample_trees((1, 2, 16, 17, 40)):
            tree = PlainTree(depths)
            tables, blocks = kept_tree(depths)
            hand = Hand(tables, look_of(blocks))
            plain = PlainHand(tree)
            blocks[0] = 0
            blocks.append(9)
            for turn in range(60):
                deed = DEEDS[turn * turn % len(DEEDS)]
                self.same(getattr(hand, deed)(), getattr(plain, deed)())
                self.same(hand.step(), plain.step())
            self.same(tables, tree.tables)
            self.same(blocks, [0] + tree.blocks[1:] + [9])


class WrittenOut(Case):
    def test_a_small_tree(self):
        # 1 1 1 0 0 1 0 0
        tables, blocks = kept_tree([0, 1, 2, 1])
        hand = Hand(tables, look_of(blocks))
        self.same(hand.step(), (1, True))
        self.same(hand.turn(), (1, False))
        self.same(hand.to_first(), True)
        self.same((hand.node(), hand.is_opening()), (2, True))
        self.same(hand.to_younger(), False)
        self.same(hand.step(), (2, False))
        self.same(hand.to_first(), False)
        self.same((hand.node(), hand.is_opening()), (2, False))
        self.same(hand.to_elder(), True)
        self.same((hand.node(), hand.is_opening()), (1, True))
        self.same(hand.to_younger(), True)
        self.same(hand.turn(), (3, False))
        self.same(hand.step(), (0, False))
        self.same(hand.step(), (0, True))
        self.same(hand.step_back(), (0, False))

    def test_one_node(self):
        tables, blocks = kept_tree([0])
        hand = Hand(tables, look_of(blocks))
        for deed in ("step", "step_back", "turn"):
            self.same(getattr(hand, deed)(), (0, False))
            for move in MOVES:
                self.same(getattr(hand, move)(), False)
                self.same((hand.node(), hand.is_opening()), (0, False))
            self.same(getattr(hand, deed)(), (0, True))


if __name__ == "__main__":
    unittest.main()
