import inspect
import unittest

from tests.helper import Case, numbers_from
from thinwood.octets import number_of, octets_of

SIZES = (0, 1, 2, 3, 4, 5, 7, 8, 16, 25, 26, 27, 50, 99, 100)


def numbers_of(size):
    """The least and the greatest numbers of so many octets, powers, numbers beside powers, and others."""
    top = 256 ** size
    numbers = [0, 1, 2, 255, 256, 257, 65535, 65536, top - 1, top - 2, top // 2, top // 3, top // 256, top // 256 - 1]
    numbers += [256 ** k for k in range(size)] + [255 * 256 ** k for k in range(size)]
    source = numbers_from(size)
    for k in range(5):
        number = 0
        for part in range(25):
            number = number * 2 ** 32 + next(source)
        numbers.append(number % top)
    return sorted({number for number in numbers if 0 <= number < top})


class Octets(Case):
    def test_names_and_arguments(self):
        self.assertEqual(["number", "many"], list(inspect.signature(octets_of).parameters))
        self.assertEqual(["octets"], list(inspect.signature(number_of).parameters))

    def test_as_the_numbers_laid_out_octet_by_octet(self):
        for size in SIZES:
            for number in numbers_of(size):
                asked = [number // 256 ** i % 256 for i in range(size)]
                self.same(octets_of(number, size), asked)
                self.same(number_of(asked), number)

    def test_written_out(self):
        self.same(octets_of(0, 0), [])
        self.same(number_of([]), 0)
        self.same(octets_of(0, 3), [0, 0, 0])
        self.same(number_of([0, 0, 0]), 0)
        self.same(octets_of(5, 1), [5])
        self.same(octets_of(258, 2), [2, 1])
        self.same(number_of([2, 1]), 258)
        self.same(octets_of(65535, 3), [255, 255, 0])
        self.same(number_of([0, 0, 1]), 65536)
        self.same(octets_of(256 ** 100 - 1, 100), [255] * 100)
        self.same(number_of([255] * 100), 256 ** 100 - 1)

    def test_each_number_of_two_octets(self):
        for number in range(65536):
            told = octets_of(number, 2)
            if told != [number % 256, number // 256] or number_of(told) != number:
                self.fail((number, told))

    def test_the_octets_stay_as_they_were_and_the_told_list_is_the_askers_own(self):
        for size in SIZES:
            for number in numbers_of(size):
                octets = octets_of(number, size)
                before = list(octets)
                number_of(octets)
                self.same(octets, before)
                octets.append(9)
                octets[0] = 300
                self.same(octets_of(number, size), before)


if __name__ == "__main__":
    unittest.main()
