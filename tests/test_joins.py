"""Tests of [14], [16], [17], [18] and [24]: joins, rows of joins, and forests side by side."""

import unittest
from itertools import product
from random import Random

from linkforests.builds import after_join, beside, possible_joins, run_joins
from linkforests.errors import BadCount, BadJoin, TooMany
from linkforests.forests import forest_error, roots, single
from tests.support import (
    MANY_KINDS, CallCase, built_forests, down_path, joined_all, large_forests, nested, not_vertices, random_history,
    sample_forests, true_joins, up_path, variants, with_item,
)


def first_wrong(n, joins):
    """Returns the index of the first item that is not a join, or None, found by doing the joins before it."""
    for index, item in enumerate(joins):
        if type(item) is not tuple or len(item) != 2 or {type(part) for part in item} != {int}:
            return index
        if joined_all(n, joins[:index + 1]) is None:
            return index
    return None


def rows_of_joins():
    """Returns pairs of a number of vertices and a row of joins that can be done."""
    chance = Random(18)
    rows = []
    for forest in built_forests()[::3]:
        history = random_history(chance, forest)
        rows.append((len(forest), tuple((vertex, forest[vertex]) for vertex in history)))
    return rows


class JoinTest(CallCase):
    def test_possible_joins(self):
        for forest in sample_forests() + list(built_forests()):
            self.same(self.call(possible_joins, forest), tuple(true_joins(forest)), forest)

    def test_possible_joins_at_the_edges(self):
        self.same(possible_joins((0,)), ())
        self.same(possible_joins((0,) * 24), ())
        self.assertEqual(len(possible_joins(single(24))), 24 * 23)
        self.same(possible_joins((0, 0, 2, 2)), ((0, 2), (2, 0)))
        self.same(possible_joins((2, 1, 2)), ((1, 2),))

    def test_all_pairs_of_vertices(self):
        for forest in sample_forests() + list(built_forests()):
            joins = true_joins(forest)
            for child, parent in product(range(len(forest)), repeat=2):
                if (child, parent) in joins:
                    self.same(self.call(after_join, forest, child, parent), with_item(forest, child, parent), forest)
                else:
                    self.check_refused(forest, child, parent)

    def check_refused(self, forest, child, parent):
        self.same(self.refused(BadJoin, after_join, forest, child, parent).index, 0)

    def test_pairs_of_other_values(self):
        for forest in ((0,), (0, 1), (0, 0, 2), (2, 2, 2, 3), up_path(24), single(24), (0,) * 24):
            others = not_vertices(len(forest))
            for child, parent in product(others, repeat=2):
                self.check_refused(forest, child, parent)
            for vertex, other in product(roots(forest)[:2], others):
                self.check_refused(forest, vertex, other)
                self.check_refused(forest, other, vertex)

    def test_bools_are_no_vertices(self):
        self.check_refused((0, 1), True, 0)
        self.check_refused((0, 1), 0, True)
        self.check_refused((0, 1), False, 1)
        self.check_refused((0, 1), 1, False)

    def test_equal_weights_either_way(self):
        self.same(after_join((0, 0, 2, 2), 0, 2), (2, 0, 2, 2))
        self.same(after_join((0, 0, 2, 2), 2, 0), (0, 0, 0, 2))

    def test_too_heavy_by_one(self):
        self.check_refused((0, 0, 0, 3, 3), 0, 3)
        self.same(after_join((0, 0, 0, 3, 3), 3, 0), (0, 0, 0, 0, 3))


class RunTest(CallCase):
    def check(self, n, joins):
        if type(joins) is not tuple:
            self.assertIsNone(self.refused(BadJoin, run_joins, n, joins).index)
            return
        wrong = first_wrong(n, joins)
        if wrong is None:
            self.same(self.call(run_joins, n, joins), joined_all(n, joins), (n, joins))
        else:
            self.same(self.refused(BadJoin, run_joins, n, joins).index, wrong, (n, joins))

    def test_rows_of_joins(self):
        for n, joins in rows_of_joins():
            self.same(self.call(run_joins, n, joins), joined_all(n, joins))
            self.assertIsNone(forest_error(run_joins(n, joins)))

    def test_rows_with_a_part_changed(self):
        for n, joins in rows_of_joins():
            for other in variants(joins):
                self.check(n, other)

    def test_rows_with_another_number_of_vertices(self):
        for n, joins in rows_of_joins():
            for other in (1, n - 1, n + 1, 24):
                if 1 <= other <= 24:
                    self.check(other, joins)

    def test_parts_of_rows(self):
        for n, joins in rows_of_joins():
            for size in range(len(joins) + 1):
                self.same(self.call(run_joins, n, joins[:size]), joined_all(n, joins[:size]))

    def test_no_joins(self):
        for n in range(1, 25):
            self.same(self.call(run_joins, n, ()), single(n))

    def test_values_that_are_no_tuples(self):
        values = [value for value in MANY_KINDS + (nested(60), nested(59)) if type(value) is not tuple]
        for n, value in product((1, 3, 24), values + [[(1, 0)], [], {"0": (1, 0)}, "(1, 0)"]):
            self.assertIsNone(self.refused(BadJoin, run_joins, n, value).index)

    def test_items_of_other_kinds(self):
        for item in MANY_KINDS + (nested(58), (1,), (1, 0, 0), [1, 0], (1, False), (True, 0), "10", ((1, 0),)):
            self.same(self.refused(BadJoin, run_joins, 3, (item,)).index, 0)
            self.same(self.refused(BadJoin, run_joins, 3, ((1, 0), item)).index, 1)
            self.same(self.refused(BadJoin, run_joins, 3, ((1, 0), (2, 0), item, item)).index, 2)

    def test_a_wrong_item_after_very_many_is_not_reached(self):
        self.same(self.refused(BadJoin, run_joins, 2, ((1, 0),) * 1300).index, 1)


class BesideTest(CallCase):
    def check(self, *forests):
        found = self.call(beside, *forests)
        self.assertIsNone(forest_error(found))
        start = 0
        for forest in forests:
            part = found[start:start + len(forest)]
            self.same(tuple(parent - start for parent in part), forest)
            start += len(forest)
        self.assertEqual(len(found), start)

    def test_one(self):
        for forest in sample_forests():
            self.same(self.call(beside, forest), forest)

    def test_several(self):
        chance = Random(24)
        for repeat in range(300):
            forests = [chance.choice(large_forests()[:130]) for part in range(chance.randrange(1, 5))]
            while sum(len(forest) for forest in forests) > 24:
                forests.pop()
            self.check(*forests)
        self.check((0,), (1, 1), (0,), (2, 0, 2))

    def test_none(self):
        self.assertEqual(vars(self.refused(BadCount, beside)), {})

    def test_as_many_vertices_as_there_can_be(self):
        self.check(up_path(12), down_path(12))
        self.check(*[(0,)] * 24)
        self.check(up_path(24))
        self.check(single(23), (0,))

    def test_one_vertex_too_many(self):
        rows = ((up_path(24), (0,)), ((0,), up_path(24)), ((0,),) * 25, (up_path(12), up_path(13)), (single(24),) * 3)
        for forests in rows:
            self.same(self.refused(TooMany, beside, *forests).limit, 24)


if __name__ == "__main__":
    unittest.main()
