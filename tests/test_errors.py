import unittest

from tests.helper import REFUSALS, Case
from thinwood.errors import WoodError


class Errors(Case):
    def test_any_refusal_is_a_value_error(self):
        self.assertTrue(issubclass(WoodError, ValueError))

    def test_each_refusal_stands_under_wood_error(self):
        self.assertEqual(9, len(set(REFUSALS)))
        for refusal in REFUSALS:
            self.assertTrue(issubclass(refusal, WoodError), refusal)
            self.assertIsNot(refusal, WoodError)

    def test_no_refusal_stands_under_another_one(self):
        for refusal in REFUSALS:
            for other in REFUSALS:
                if other is not refusal:
                    self.assertFalse(issubclass(refusal, other), (refusal, other))

    def test_a_refusal_is_taken_by_its_own_name_and_by_wood_error(self):
        for refusal in REFUSALS:
            for name in (refusal, WoodError, ValueError):
                with self.assertRaises(name):
                    raise refusal("words")


if __name__ == "__main__":
    unittest.main()
