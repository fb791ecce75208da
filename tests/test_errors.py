"""The refusals and how they stand to one another (1.3 and the interface)."""

import unittest

from ringkeep.errors import NoHand, NoKey, RingError


class Errors(unittest.TestCase):
    def test_each_is_a_ring_error_and_so_a_value_error(self):
        self.assertTrue(issubclass(RingError, ValueError))
        for refusal in (NoHand, NoKey):
            self.assertTrue(issubclass(refusal, RingError))
            self.assertIsNot(refusal, RingError)
            with self.assertRaises(ValueError):
                raise refusal("words")

    def test_neither_is_below_the_other(self):
        self.assertFalse(issubclass(NoHand, NoKey))
        self.assertFalse(issubclass(NoKey, NoHand))


if __name__ == "__main__":
    unittest.main()
