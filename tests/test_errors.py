"""The refusals: which stands under which."""

import unittest

from sortforge.errors import BadProgram, BadRow, BadText, ForgeError, NoRule

REFUSALS = (BadProgram, BadRow, NoRule, BadText)


class Refusals(unittest.TestCase):
    def test_any_refusal_is_a_value_error(self):
        self.assertTrue(issubclass(ForgeError, ValueError))
        self.assertIsNot(ForgeError, ValueError)

    def test_each_stands_under_the_common_one(self):
        for refusal in REFUSALS:
            with self.subTest(refusal.__name__):
                self.assertTrue(issubclass(refusal, ForgeError))
                self.assertIsNot(refusal, ForgeError)

    def test_none_stands_under_another(self):
        for refusal in REFUSALS:
            others = [other for other in REFUSALS if other.__name__ != refusal.__name__]
            self.assertEqual(len(others), 3)
            for other in others:
                with self.subTest(refusal.__name__, other=other.__name__):
                    self.assertFalse(issubclass(refusal, other))

    def test_each_is_caught_as_itself_and_as_those_above(self):
        for refusal in REFUSALS:
            for above in (refusal, ForgeError, ValueError):
                with self.subTest(refusal.__name__, above=above.__name__):
                    with self.assertRaises(above):
                        raise refusal("why")


if __name__ == "__main__":
    unittest.main()
