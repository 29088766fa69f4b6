"""Tests of [56] to [62]: which forests grow from others, obstacles, and certificates of growth."""

import unittest
from itertools import product

from linkforests.forests import single
from linkforests.growth import growth_certificate, growth_holds, grows_from, left_vertices, obstacles
from tests.support import (
    MANY_KINDS, CallCase, all_forests, any_pairs, growing_pairs, is_true_growth, listed_growths, nested, small_forests,
    true_joins, true_left, true_obstacles, variants, with_item, with_join,
)


def arising_from(forest):
    """Returns the set of all forests that arise from this one, found by doing all joins."""
    found = {forest}
    front = [forest]
    while front:
        state = front.pop()
        longer = {with_item(state, child, parent) for child, parent in true_joins(state)} - found
        found |= longer
        front += longer
    return found


def small_pairs():
    """Returns all pairs of forests of the same number of vertices, up to four."""
    return [pair for n in range(1, 5) for pair in product(all_forests(n), repeat=2)]


def smallest_growth(one, other):
    """Returns the growth that joins the smallest possible vertex each time."""
    row = ()
    while one != other:
        vertex = min(v for v in true_left(one, other) if is_next(one, other, v))
        one = with_item(one, vertex, other[vertex])
        row += (vertex,)
    return row


def is_next(one, other, vertex):
    """Returns whether vertex can be joined to its parent in other without closing its tree too early."""
    return with_join(one, vertex, other) is not None and vertex not in [other[v] for v in true_left(one, other)]


class ObstaclesTest(CallCase):
    def check(self, one, other):
        wanted = true_obstacles(one, other)
        self.same(self.call(left_vertices, one, other), true_left(one, other), (one, other))
        self.same(self.call(obstacles, one, other), wanted, (one, other))
        self.assertIs(self.call(grows_from, other, one), wanted == (), (one, other))
        return wanted

    def test_all_small_pairs(self):
        for one, other in small_pairs():
            self.check(one, other)

    def test_large_pairs(self):
        words = {word: 0 for word in ("apart", "closed", "heavy")}
        for one, other in any_pairs():
            for word in {word for word, vertex in self.check(one, other)}:
                words[word] += 1
        self.assertGreater(min(words.values()), 50)

    def test_pairs_that_grow(self):
        for one, other in growing_pairs():
            self.assertEqual(self.check(one, other), ())

    def test_a_search_through_all_joins(self):
        for n in range(1, 5):
            for one in all_forests(n):
                found = arising_from(one)
                for other in all_forests(n):
                    self.assertIs(grows_from(other, one), other in found, (one, other))

    def test_a_search_from_five_vertices(self):
        for one in all_forests(5)[::37]:
            found = arising_from(one)
            for other in all_forests(5):
                self.assertIs(grows_from(other, one), other in found, (one, other))

    def test_each_forest_grows_from_itself(self):
        for one, other in any_pairs():
            self.assertIs(grows_from(one, one), True)
            self.same(obstacles(other, other), ())
            self.same(left_vertices(other, other), ())

    def test_a_root_that_was_no_root(self):
        self.same(obstacles((0, 0), (0, 1)), (("apart", 1),))
        self.same(left_vertices((0, 0), (0, 1)), ())

    def test_obstacles_of_all_kinds_are_in_order(self):
        one, other = (0, 1, 2, 2, 4, 4, 6), (0, 3, 0, 0, 0, 4, 5)
        self.same(obstacles(one, other), (("apart", 3), ("closed", 1), ("closed", 6), ("heavy", 4)))


class CertificateTest(CallCase):
    def check(self, one, other):
        found = self.call(growth_certificate, one, other)
        if true_obstacles(one, other):
            self.assertIn(found, true_obstacles(one, other))
            self.same(found, tuple(found))
        else:
            self.same(found, ("growth", smallest_growth(one, other)), (one, other))
            self.assertTrue(is_true_growth(one, other, found[1]))
        self.assertIs(self.call(growth_holds, one, other, found), True, (one, other))

    def test_large_pairs(self):
        for one, other in any_pairs():
            self.check(one, other)

    def test_small_pairs(self):
        for one, other in small_pairs()[::3]:
            self.check(one, other)
            if grows_from(other, one):
                self.same(growth_certificate(one, other)[1], listed_growths(one, other)[0])
            else:
                self.assertEqual(listed_growths(one, other), ())


class HoldsTest(CallCase):
    def check(self, one, other, value):
        right = False
        if type(value) is tuple and len(value) == 2:
            right = value[0] == "growth" and is_true_growth(one, other, value[1])
            right = right or type(value[1]) is int and value in true_obstacles(one, other)
        self.assertIs(self.call(growth_holds, one, other, value), right, (one, other, value))
        return right

    def test_all_growths_and_obstacles(self):
        for one, other in any_pairs()[::4]:
            for value in true_obstacles(one, other):
                self.assertTrue(self.check(one, other, value))
            for word, vertex in product(("apart", "closed", "heavy", "growth"), range(len(one))):
                self.check(one, other, (word, vertex))

    def test_all_rows_of_small_pairs(self):
        for one, other in small_pairs()[::11]:
            for size in range(len(one)):
                for row in product(range(len(one)), repeat=size):
                    right = row in listed_growths(one, other)
                    self.assertIs(self.check(one, other, ("growth", row)), right)

    def test_parts_changed(self):
        found = {True: 0, False: 0}
        for one, other in any_pairs()[::13]:
            for value in variants(growth_certificate(one, other)):
                found[self.check(one, other, value)] += 1
        self.assertGreater(min(found.values()), 200)

    def test_bools_are_no_vertices(self):
        self.assertTrue(self.check((0, 1), (0, 0), ("growth", (1,))))
        self.assertFalse(self.check((0, 1), (0, 0), ("growth", (True,))))
        self.assertTrue(self.check((0, 1), (1, 1), ("growth", (0,))))
        self.assertFalse(self.check((0, 1), (1, 1), ("growth", (False,))))
        self.assertTrue(self.check((0, 0), (0, 1), ("apart", 1)))
        self.assertFalse(self.check((0, 0), (0, 1), ("apart", True)))
        self.assertTrue(self.check((1, 1), (0, 1), ("apart", 0)))
        self.assertFalse(self.check((1, 1), (0, 1), ("apart", False)))

    def test_nothing_left_is_no_growth_if_a_parent_differs(self):
        self.assertFalse(self.check((0, 0), (0, 1), ("growth", ())))
        self.assertFalse(self.check((0, 0, 1), (0, 0, 0), ("growth", ())))
        self.assertTrue(self.check((0, 0, 1), (0, 0, 1), ("growth", ())))

    def test_values_of_other_kinds(self):
        parts = MANY_KINDS + (nested(57), "growth", "heavy", "apart", (1, 3, 2), [1, 3, 2], (2,), 2, 3)
        for one, other in ((single(4), (0, 0, 0, 2)), ((0, 1, 0, 3), (0, 0, 0, 2)), (single(3), (0, 0, 1))):
            for value in MANY_KINDS + (nested(60), ("growth",), ("growth", (1, 3, 2), ()), ["growth", (1, 3, 2)]):
                self.check(one, other, value)
            for value in product(parts, repeat=2):
                self.check(one, other, value)

    def test_small_forests_hold_for_themselves_only(self):
        for forest in small_forests():
            self.assertTrue(self.check(forest, forest, ("growth", ())))
            self.assertFalse(self.check(forest, forest, ("growth", (0,))))


if __name__ == "__main__":
    unittest.main()
