"""Tests of [5] and [6]: which values are forests, and what is wrong with the others."""

import unittest
from copy import deepcopy
from itertools import product

from linkforests.forests import forest_error, is_forest
from tests.support import all_tuples, down_path, grounded, nested, sample_forests, up_path, with_item

NOT_TUPLES = (
    None, True, False, 0, 1, -3, 10 ** 39, "", "0", "01", "tuple", [], [0], [0, 0, 1], [1, 0], list(range(25)), {},
    {"0": 0}, {"a": (0,)}, [(0,)], nested(60), nested(59),
)
NOT_PARENTS = (True, False, -1, -2, None, "", "0", "a", (), (0,), (0, 0), [], [0], {}, {"0": 0}, 10 ** 39, -(10 ** 39))


def first_loose(parents):
    """Returns the first index from which parents do not lead to a root, or None."""
    return min(set(range(len(parents))) - grounded(parents), default=None)


def expected(parents):
    """Returns what [6] requires for a tuple of 1 to 24 integers."""
    for index, parent in enumerate(parents):
        if not 0 <= parent < len(parents):
            return (index, "parent")
    loose = first_loose(parents)
    return None if loose is None else (loose, "cycle")


class FormTest(unittest.TestCase):
    def check(self, value, error):
        before = deepcopy(value)
        found = forest_error(value)
        self.assertEqual(found, error)
        self.assertIs(type(found), type(error))
        if found is not None:
            self.assertEqual([type(part) for part in found], [type(part) for part in error])
        self.assertIs(is_forest(value), error is None)
        self.assertEqual(value, before)

    def test_forests(self):
        for forest in sample_forests():
            with self.subTest(forest=forest):
                self.check(forest, None)

    def test_one_vertex(self):
        self.check((0,), None)
        for item in (1, -1, True, False, None, "0", (0,), [0], {}, 10 ** 39):
            with self.subTest(item=item):
                self.check((item,), (0, "parent"))

    def test_24_vertices(self):
        for forest in (up_path(24), down_path(24), tuple(range(24)), (23,) * 24, (0,) * 24):
            with self.subTest(forest=forest):
                self.check(forest, None)
        self.check(with_item(up_path(24), 23, 24), (23, "parent"))
        self.check(with_item(up_path(24), 0, 23), (0, "cycle"))

    def test_all_tuples_of_integers_with_few_items(self):
        for n in range(1, 5):
            for parents in product(range(-1, n + 1), repeat=n):
                with self.subTest(parents=parents):
                    self.check(parents, expected(parents))

    def test_there_are_as_many_forests_as_known(self):
        for n in range(1, 7):
            with self.subTest(n=n):
                self.assertEqual(sum(is_forest(parents) for parents in all_tuples(n)), (n + 1) ** (n - 1))

    def test_lengths(self):
        self.check((), (None, "length"))
        for n in (25, 26, 60, 4000):
            with self.subTest(n=n):
                self.check(tuple(range(n)), (None, "length"))
                self.check((0,) * n, (None, "length"))

    def test_other_values_than_tuples(self):
        for value in NOT_TUPLES:
            with self.subTest(value=value):
                self.check(value, (None, "tuple"))

    def test_items_that_are_no_vertices(self):
        for forest in ((0, 0), (2, 1, 2), up_path(7), up_path(24), (23,) * 24):
            n = len(forest)
            for index, item in product((0, 1, n - 1), NOT_PARENTS + (n, n + 1, 24, 25, nested(58))):
                with self.subTest(forest=forest, index=index, item=item):
                    self.check(with_item(forest, index, item), (index, "parent"))

    def test_cycles(self):
        self.check((1, 0), (0, "cycle"))
        self.check((0, 2, 1), (1, "cycle"))
        self.check((1, 2, 0), (0, "cycle"))
        self.check((3, 1, 1, 4, 3), (0, "cycle"))
        self.check((0, 0, 3, 4, 5, 2, 1), (2, "cycle"))
        for n in range(2, 25):
            with self.subTest(n=n):
                self.check(tuple((vertex + 1) % n for vertex in range(n)), (0, "cycle"))
                self.check(with_item(tuple(range(n)), n - 2, n - 1)[:n - 1] + (n - 2,), (n - 2, "cycle"))

    def test_another_parent_in_a_forest(self):
        cycles = 0
        for forest in sample_forests():
            for index, parent in product(range(len(forest)), repeat=2):
                changed = with_item(forest, index, parent)
                error = expected(changed)
                cycles += error is not None
                if (forest_error(changed), is_forest(changed)) != (error, error is None):
                    self.fail(f"{changed}: {forest_error(changed)} instead of {error}")
        self.assertGreater(cycles, 1000)

    def test_the_first_of_several_errors(self):
        self.check([], (None, "tuple"))
        self.check([1, 0], (None, "tuple"))
        self.check([None] * 25, (None, "tuple"))
        self.check((None,) * 25, (None, "length"))
        self.check((1, 0) + (True,) * 23, (None, "length"))
        self.check((1, 0, 3), (2, "parent"))
        self.check((1, 0, None, True), (2, "parent"))
        self.check((1, 0, 2, True), (3, "parent"))
        self.check((-1, 5, "a"), (0, "parent"))
        self.check((0, 5, "a"), (1, "parent"))
        self.check((0, 2, 1, 4, 3), (1, "cycle"))

    def test_bools_are_no_vertices(self):
        self.check((False, True), (0, "parent"))
        self.check((0, True), (1, "parent"))
        self.check((0, False), (1, "parent"))
        self.check((1, True), (1, "parent"))


if __name__ == "__main__":
    unittest.main()
