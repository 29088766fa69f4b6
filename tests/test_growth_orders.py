"""Tests of [63] to [67]: growths in their order, their indexes, and how many there are."""

import inspect
import math
import unittest
from itertools import islice, product
from random import Random

from linkforests.errors import NoHistory, NoIndex, NoStart
from linkforests.forests import single
from linkforests.growth import (
    count_growths, growth_at, growth_certificate, growth_index, grows_from, next_joins, walk_growths,
)
from linkforests.histories import count_histories
from tests.support import (
    MANY_KINDS, CallCase, all_forests, any_pairs, built_forests, growing_pairs, grown, is_true_growth, listed_growths,
    nested, random_forest, shaped_forests, true_left, true_obstacles, true_weights, variants, with_item, with_join,
)

NO_INDEXES = (True, False, -1, None, "0", "", 10 ** 39, -(10 ** 39), (0,), [0], {}, {"0": 0}, nested(60))


def small_pairs():
    """Returns pairs of forests of up to six vertices, of which the second one grows from the first one or not."""
    chance = Random(64)
    pairs = [pair for n in range(1, 4) for pair in product(all_forests(n), repeat=2)]
    for n in (4, 5, 6):
        pairs += [(single(n), forest) for forest in shaped_forests(n)]
        for repeat in range(60):
            start = grown(chance, random_forest(chance, n), 0)
            start = tuple(p if chance.random() < 0.4 else v for v, p in enumerate(start))
            pairs += [(start, grown(chance, start, n)), (start, random_forest(chance, n))]
    return pairs


def true_next(one, other):
    """Returns the ascending tuple of the vertices with which a growth can begin, as the document states it."""
    left, before, after = true_left(one, other), true_weights(one), true_weights(other)
    closed = {other[vertex] for vertex in left}
    return tuple(v for v in left if v not in closed and after[v] <= before[other[v]])


def stuck_pairs():
    """Returns pairs of which the second forest does not grow from the first one."""
    return [pair for pair in any_pairs() if true_obstacles(*pair)]


class GrowthCase(CallCase):
    def check_no_start(self, function, one, other, *given):
        error = self.refused(NoStart, function, one, other, *given)
        self.assertIn(error.reason, true_obstacles(one, other))
        self.same(error.reason, (str(error.reason[0]), int(error.reason[1])))


class NextTest(GrowthCase):
    def test_large_pairs(self):
        for one, other in growing_pairs():
            found = self.call(next_joins, one, other)
            self.same(found, true_next(one, other), (one, other))
            self.assertEqual(found == (), one == other)

    def test_small_pairs(self):
        for one, other in small_pairs():
            if true_obstacles(one, other):
                self.check_no_start(next_joins, one, other)
            else:
                firsts = {row[0] for row in listed_growths(one, other) if row}
                self.same(self.call(next_joins, one, other), tuple(sorted(firsts)), (one, other))

    def test_pairs_that_do_not_grow(self):
        for one, other in stuck_pairs():
            self.check_no_start(next_joins, one, other)

    def test_what_is_possible_stays_possible(self):
        chance = Random(63)
        for one, other in growing_pairs():
            while one != other:
                before = next_joins(one, other)
                vertex = chance.choice(before)
                one = with_join(one, vertex, other)
                self.assertLessEqual(set(before) - {vertex}, set(next_joins(one, other)))


class CountTest(GrowthCase):
    def test_small_pairs(self):
        counts = []
        for one, other in small_pairs():
            counts.append(len(listed_growths(one, other)))
            self.same(self.call(count_growths, one, other), counts[-1], (one, other))
            self.assertEqual(counts[-1] == 0, not grows_from(other, one))
        self.assertGreater(len(set(counts)), 10)

    def test_sums_over_the_first_joins(self):
        for one, other in growing_pairs():
            after = [with_item(one, vertex, other[vertex]) for vertex in next_joins(one, other)]
            total = sum(count_growths(state, other) for state in after) if after else 1
            self.same(self.call(count_growths, one, other), total, (one, other))

    def test_pairs_that_do_not_grow(self):
        for one, other in stuck_pairs():
            self.same(self.call(count_growths, one, other), 0)

    def test_stars(self):
        for n in range(1, 25):
            star = (0,) * n
            for joined in range(n):
                start = tuple(0 if vertex <= joined else vertex for vertex in range(n))
                self.same(count_growths(start, star), math.factorial(n - 1 - joined))
        self.same(count_growths((0,) * 12 + tuple(range(12, 24)), (0,) * 12 + (12,) * 12), math.factorial(11))

    def test_from_single_vertices_they_are_histories(self):
        for forest in built_forests():
            self.same(count_growths(single(len(forest)), forest), count_histories(forest))


class IndexTest(GrowthCase):
    def test_small_pairs(self):
        for one, other in small_pairs()[::3]:
            rows = listed_growths(one, other)
            for index, row in enumerate(rows[:40]):
                self.same(self.call(growth_at, one, other, index), row)
                self.same(self.call(growth_index, one, other, row), index)

    def test_they_undo_each_other(self):
        chance = Random(65)
        for one, other in growing_pairs():
            many = count_growths(one, other)
            if len(true_left(one, other)) <= 16:
                for index in {0, many - 1, chance.randrange(many), chance.randrange(many)}:
                    row = self.call(growth_at, one, other, index)
                    self.assertTrue(is_true_growth(one, other, row), (one, other, row))
                    self.same(self.call(growth_index, one, other, row), index)

    def test_the_first_one_is_the_smallest(self):
        for one, other in growing_pairs()[::2]:
            self.same(("growth", growth_at(one, other, 0)), growth_certificate(one, other))

    def test_great_numbers_of_growths(self):
        one, other = single(24), (0,) * 24
        many = math.factorial(23)
        self.same(growth_at(one, other, many - 1), tuple(range(23, 0, -1)))
        self.same(growth_index(one, other, tuple(range(23, 0, -1))), many - 1)

    def test_indexes_that_do_not_exist(self):
        for one, other in growing_pairs()[::5]:
            many = count_growths(one, other)
            for index in NO_INDEXES + (many, many + 1, -many):
                if type(index) is not int or not 0 <= index < many:
                    self.assertIs(self.refused(NoIndex, growth_at, one, other, index).index, index)

    def test_values_that_are_no_growths(self):
        for one, other in growing_pairs()[::7]:
            row = growth_certificate(one, other)[1]
            for value in MANY_KINDS + (nested(60), ("growth", row), list(row)) + tuple(variants(row)):
                if is_true_growth(one, other, value):
                    self.same(growth_at(one, other, growth_index(one, other, value)), value)
                else:
                    self.assertEqual(vars(self.refused(NoHistory, growth_index, one, other, value)), {})

    def test_no_start_comes_before_all_other_errors(self):
        for one, other in stuck_pairs()[::3]:
            for value in (0, True, -1, None, (), lower_row(one, other), [1], nested(60)):
                self.check_no_start(growth_at, one, other, value)
                self.check_no_start(growth_index, one, other, value)


def lower_row(one, other):
    """Returns the left vertices in the order of their weights."""
    after = true_weights(other)
    return tuple(sorted(true_left(one, other), key=lambda vertex: after[vertex]))


class WalkTest(GrowthCase):
    def test_small_pairs(self):
        for one, other in small_pairs():
            self.same(self.call(walk_growths, one, other), list(listed_growths(one, other)), (one, other))

    def test_left_early(self):
        for one, other in growing_pairs():
            rows = list(islice(walk_growths(one, other), 6))
            self.assertEqual(len(rows), min(6, count_growths(one, other)))
            self.same(rows[:3], [growth_at(one, other, index) for index in range(len(rows[:3]))])
            self.assertEqual(rows, sorted(set(rows)))
            self.assertTrue(all(is_true_growth(one, other, row) for row in rows))

    def test_very_many(self):
        walk = walk_growths(single(24), (0,) * 24)
        self.assertTrue(inspect.isgenerator(walk))
        self.same(next(walk), tuple(range(1, 24)))
        self.same(next(walk), tuple(range(1, 22)) + (23, 22))

    def test_pairs_that_do_not_grow(self):
        for one, other in stuck_pairs():
            self.same(self.call(walk_growths, one, other), [])

    def test_nothing_left(self):
        for one, other in any_pairs()[::9]:
            self.same(self.call(walk_growths, other, other), [()])


if __name__ == "__main__":
    unittest.main()
