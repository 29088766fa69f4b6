"""Tests of [134]: the limits."""

import unittest

from linkforests import bounds

LIMITS = {
    "MAX_VERTICES": 24,
    "LISTED": 2000,
    "SHAPE_VERTICES": 60,
    "BATCH": 20,
    "HISTORY": 30,
    "MAX_COUNT": 1000000000000,
    "MAX_FORESTS": 8,
}


class BoundsTest(unittest.TestCase):
    def test_each_limit_has_its_value(self):
        for name, value in LIMITS.items():
            with self.subTest(name=name):
                self.assertEqual(getattr(bounds, name), value)
                self.assertIs(type(getattr(bounds, name)), int)

    def test_there_is_no_other_limit(self):
        self.assertEqual({name for name in vars(bounds) if not name.startswith("_")}, set(LIMITS))


if __name__ == "__main__":
    unittest.main()
