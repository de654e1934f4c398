import inspect
import unittest

from tests.helper import GREAT, Case, WatchedLook, numbers_from, plain_heap
from thinwood import heaps as module
from thinwood.blocks import look_of
from thinwood.errors import NoPlace, TooMany
from thinwood.heaps import cover, first_at_most, heap_of, last_at_most, least_of

FEW = (0, 1, 2, 3, 4, 5, 7, 8, 9, 15, 16, 17, 21)
MANY = (31, 32, 33, 63, 64, 65, 100, 127, 128, 129, 1000, 1023, 1024, 1025, 2047, 2048, 2049, 4095, 4096)


def mixed_numbers(many, seed, kinds):
    source = numbers_from(seed)
    return [next(source) % kinds - kinds // 2 for k in range(many)]


def sample_lists(counts):
    for many in counts:
        yield [7] * many
        yield list(range(many))
        yield list(range(many, 0, -1))
        yield mixed_numbers(many, many, 5)
        yield mixed_numbers(many, many + 1, 100000)
        # Of the most figures, either way, and some alike.
        yield [(GREAT - k // 2) * (-1) ** k for k in range(many)]
        yield [-GREAT if k == many - 1 else GREAT for k in range(many)]


def size_and_levels(many):
    size = 1
    levels = 0
    while size < many:
        size *= 2
        levels += 1
    return size, levels


def covered_by(many):
    """For each node from 1 on the places that it covers, as point 13 tells them."""
    size = size_and_levels(many)[0]
    places = {size + i: [i] for i in range(size)}
    for node in range(size - 1, 0, -1):
        places[node] = places[2 * node] + places[2 * node + 1]
    return places


def plain_cover(places, start, stop):
    stretch = set(range(start, stop))
    within = [node for node in places if stretch.issuperset(places[node])]
    told = [node for node in within if node == 1 or not stretch.issuperset(places[node // 2])]
    return sorted(told, key=lambda node: places[node][0])


def some_places(many):
    """The ends, those beside them, and some between, among them those by powers of two."""
    near = [0, 1, 2, 31, 32, 33, many // 2 - 1, many // 2, many // 2 + 1, many // 3, many - 2, many - 1, many]
    return sorted({at for at in near if 0 <= at <= many})


def goals_of(numbers):
    """Just below, at and above some of the numbers, the least and the greatest among them, and far off."""
    goals = {0, GREAT, -GREAT, 10 ** 40, -(10 ** 40)}
    for number in set(numbers[:2] + numbers[-2:] + sorted(numbers)[:2] + sorted(numbers)[-2:]):
        goals.update({number - 1, number, number + 1})
    return sorted(goals)


class Interface(Case):
    def test_names_and_arguments(self):
        told = {
            "heap_of": ["numbers"],
            "least_of": ["many", "look", "start", "stop"],
            "first_at_most": ["many", "look", "start", "goal"],
            "last_at_most": ["many", "look", "stop", "goal"],
            "cover": ["many", "start", "stop"],
        }
        for name, arguments in told.items():
            self.assertEqual(arguments, list(inspect.signature(getattr(module, name)).parameters), name)


class HeapOf(Case):
    def test_as_the_plain_walk_tells(self):
        for numbers in sample_lists(FEW + MANY):
            self.same(heap_of(numbers), plain_heap(numbers))

    def test_written_out(self):
        self.same(heap_of([]), [None, None])
        self.same(heap_of([5]), [None, 5])
        self.same(heap_of([-5]), [None, -5])
        self.same(heap_of([0]), [None, 0])
        self.same(heap_of([5, 3]), [None, 3, 5, 3])
        self.same(heap_of([3, 3]), [None, 3, 3, 3])
        self.same(heap_of([4, 0, -2]), [None, -2, 0, -2, 4, 0, -2, None])
        self.same(heap_of([6, 5, 9, 2, 3]), [None, 2, 2, 3, 5, 2, 3, None, 6, 5, 9, 2, 3, None, None, None])
        self.same(heap_of([GREAT, -GREAT]), [None, -GREAT, GREAT, -GREAT])

    def test_room(self):
        for many in FEW + MANY:
            self.same(len(heap_of([1] * many)), 2 * size_and_levels(many)[0])

    def test_too_many(self):
        for many in (4097, 4098, 5000, 8192, 8193):
            self.refused(TooMany, heap_of, [1] * many)
            self.refused(TooMany, heap_of, list(range(many)))

    def test_the_numbers_stay_and_the_told_list_is_the_askers_own(self):
        for numbers in sample_lists(FEW):
            before = list(numbers)
            asked = plain_heap(numbers)
            told = heap_of(numbers)
            self.same(numbers, before)
            for node in range(len(told)):
                told[node] = 9
            told.append(1)
            self.same(numbers, before)
            self.same(heap_of(numbers), asked)
            again = heap_of(numbers)
            numbers.append(-GREAT)
            numbers[0] = -GREAT
            self.same(again, asked)
        numbers = [1] * 4097
        self.refused(TooMany, heap_of, numbers)
        self.same(numbers, [1] * 4097)


class Questions(Case):
    def hold(self, question, heap, asked_for, answer):
        """The answer, its kind, and the nodes: only such as are there, and no more than told."""
        many = asked_for[0]
        look = WatchedLook(heap, 1)
        told = question(many, look, *asked_for[1:])
        if told != answer or type(told) is not type(answer):
            self.fail((question.__name__, asked_for, told, answer))
        self.assertLessEqual(len(look.seen), 4 * size_and_levels(many)[1] + 4, (question.__name__, asked_for))

    def hold_least(self, numbers, heap, start, stop):
        self.hold(least_of, heap, (len(numbers), start, stop), min(numbers[start:stop], default=None))

    def hold_places(self, numbers, heap, at, goal):
        low = [place for place, number in enumerate(numbers) if number <= goal]
        behind = [place for place in low if place >= at]
        ahead = [place for place in low if place < at]
        self.hold(first_at_most, heap, (len(numbers), at, goal), behind[0] if behind else None)
        self.hold(last_at_most, heap, (len(numbers), at, goal), ahead[-1] if ahead else None)

    def test_each_stretch_and_each_goal_of_few_numbers(self):
        for numbers in sample_lists(FEW):
            heap = plain_heap(numbers)
            goals = {0, GREAT, -GREAT}
            for number in numbers:
                goals.update({number - 1, number, number + 1})
            for at in range(len(numbers) + 1):
                for stop in range(at, len(numbers) + 1):
                    self.hold_least(numbers, heap, at, stop)
                for goal in sorted(goals):
                    self.hold_places(numbers, heap, at, goal)

    def test_of_many_numbers(self):
        for numbers in sample_lists(MANY):
            heap = plain_heap(numbers)
            places = some_places(len(numbers))
            for at in places:
                for stop in places:
                    if at <= stop:
                        self.hold_least(numbers, heap, at, stop)
                for goal in goals_of(numbers):
                    self.hold_places(numbers, heap, at, goal)

    def test_each_place_of_the_most_numbers(self):
        numbers = mixed_numbers(4096, 17, 100000)
        heap = plain_heap(numbers)
        for at, number in enumerate(numbers):
            self.hold(least_of, heap, (4096, at, at), None)
            self.hold(least_of, heap, (4096, at, at + 1), number)
            self.hold(first_at_most, heap, (4096, at, number), at)
            self.hold(last_at_most, heap, (4096, at + 1, number), at)

    def test_a_single_low_number_is_found_from_everywhere(self):
        for many in (1, 2, 3, 8, 31, 32, 33):
            for place in range(many):
                numbers = [1] * many
                numbers[place] = 0
                heap = plain_heap(numbers)
                for at in range(many + 1):
                    self.hold_places(numbers, heap, at, 0)

    def test_no_numbers(self):
        look = WatchedLook(plain_heap([]), 1)
        self.same(least_of(0, look, 0, 0), None)
        for goal in (-GREAT, -1, 0, 1, GREAT):
            self.same(first_at_most(0, look, 0, goal), None)
            self.same(last_at_most(0, look, 0, goal), None)

    def test_somewhat_more_numbers_are_not_refused(self):
        numbers = mixed_numbers(5000, 3, 100000)
        heap = plain_heap(numbers)
        self.hold_least(numbers, heap, 0, 5000)
        self.hold_least(numbers, heap, 4000, 4999)
        self.hold_places(numbers, heap, 4500, min(numbers) + 50)

    def test_in_any_order_and_as_often_as_you_like(self):
        numbers = mixed_numbers(50, 8, 20)
        look = look_of(heap_of(numbers))
        for turn in range(2):
            for step in (7, 11, 13):
                for at in [k * step % 51 for k in range(100)]:
                    self.same(least_of(50, look, at, 50), min(numbers[at:], default=None))
                    self.same(least_of(50, look, 0, at), min(numbers[:at], default=None))
                    behind = [k for k in range(at, 50) if numbers[k] <= -3]
                    self.same(first_at_most(50, look, at, -3), behind[0] if behind else None)
                    ahead = [k for k in range(at) if numbers[k] <= -3]
                    self.same(last_at_most(50, look, at, -3), ahead[-1] if ahead else None)

    def test_changed_lists_change_no_later_answer(self):
        numbers = mixed_numbers(20, 9, 20)
        heap = heap_of(numbers)
        look = look_of(heap)
        before = list(numbers)
        heap[1:] = [-GREAT] * (len(heap) - 1)
        numbers.clear()
        self.same(least_of(20, look, 3, 20), min(before[3:]))
        self.same(first_at_most(20, look, 0, min(before)), before.index(min(before)))
        self.same(last_at_most(20, look, 20, -GREAT), None)

    def test_no_place(self):
        for many in FEW + (31, 32, 33, 4095, 4096):
            heap = plain_heap([0] * many)
            for at in (-1, -2, -many - 1, -5000, -(2 ** 32), -GREAT, many + 1, many + 2, 2 * many + 3, 9000, GREAT):
                look = WatchedLook(heap, 1)
                for goal in (-1, 0, 1, GREAT, -GREAT):
                    self.refused(NoPlace, first_at_most, many, look, at, goal)
                    self.refused(NoPlace, last_at_most, many, look, at, goal)
                for other in (0, many // 2, many, at, at - 1, at + 1):
                    self.refused(NoPlace, least_of, many, look, at, other)
                    self.refused(NoPlace, least_of, many, look, other, at)
                    self.refused(NoPlace, cover, many, at, other)
                    self.refused(NoPlace, cover, many, other, at)

    def test_stretches_turned_about(self):
        for many in FEW:
            look = WatchedLook(plain_heap([0] * many), 1)
            for start in range(many + 1):
                for stop in range(start):
                    self.refused(NoPlace, least_of, many, look, start, stop)
                    self.refused(NoPlace, cover, many, start, stop)


class Cover(Case):
    def test_each_stretch_of_few_places(self):
        for many in FEW + (31, 32, 33):
            places = covered_by(many)
            for start in range(many + 1):
                for stop in range(start, many + 1):
                    self.same(cover(many, start, stop), plain_cover(places, start, stop), (many, start, stop))

    def test_of_many_places(self):
        for many in MANY + (5000,):
            places = covered_by(many)
            for start in some_places(many):
                for stop in some_places(many):
                    if start <= stop:
                        told = cover(many, start, stop)
                        covered = [place for node in told for place in places[node]]
                        self.same(covered, list(range(start, stop)))
                        sizes = [len(places[node]) for node in told]
                        self.assertTrue(all(sizes.count(one) <= 2 for one in sizes), told)
                        for node in told:
                            above = places[node // 2] if node > 1 else [-1]
                            self.assertFalse(set(range(start, stop)).issuperset(above), (node, start, stop))

    def test_written_out(self):
        self.same(cover(0, 0, 0), [])
        self.same(cover(1, 0, 0), [])
        self.same(cover(1, 1, 1), [])
        self.same(cover(1, 0, 1), [1])
        self.same(cover(2, 0, 2), [1])
        self.same(cover(2, 1, 2), [3])
        # Node 1 covers a fourth place, too, which is none of the three.
        self.same(cover(3, 0, 3), [2, 6])
        self.same(cover(4, 0, 4), [1])
        self.same(cover(8, 1, 7), [9, 5, 6, 14])
        self.same(cover(8, 1, 8), [9, 5, 3])
        self.same(cover(8, 0, 7), [2, 6, 14])
        self.same(cover(4096, 0, 4096), [1])
        self.same(cover(4096, 4095, 4096), [8191])

    def test_the_told_list_is_the_askers_own(self):
        told = cover(8, 1, 7)
        told.append(1)
        told[0] = 2
        self.same(cover(8, 1, 7), [9, 5, 6, 14])
        for many in FEW:
            cover(many, 0, many).append(99)
            cover(many, 0, 0).append(99)
            self.assertNotIn(99, cover(many, 0, many) + cover(many, 0, 0))


if __name__ == "__main__":
    unittest.main()
