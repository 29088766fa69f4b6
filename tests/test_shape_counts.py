"""Tests of [94] to [100]: how many shapes, trees and forests there are, and the shapes in their order."""

import inspect
import math
import unittest
from itertools import islice, product
from random import Random

from linkforests.errors import BadCount, BadShape, NoIndex, TooMany
from linkforests.forests import roots
from linkforests.shapes import (
    count_built_forests, count_built_trees, count_forest_shapes, count_labellings, count_shapes, is_built_shape,
    is_shape, shape_at, shape_index, shape_weight, shapes_with, walk_shapes,
)
from tests.support import (
    MANY_KINDS, CallCase, all_forests, all_shapes, arising_forests, compare_shapes, in_shape_order, joined_shapes,
    nested, true_heavy, true_shape, variants,
)

NO_COUNTS = (0, -1, 61, 62, 10 ** 39, True, False, None, "", "1", (), (1,), [], [1], {}, nested(60))
NO_INDEXES = (True, False, -1, None, "0", "", 10 ** 39, -(10 ** 39), (0,), [0], {}, {"0": 0}, nested(60))
NO_SHAPES = (None, True, 0, "", [], {}, [()], (0,), ((), []), (((),), ()), ((),) * 60, nested(60))


def rows_of_shapes(n):
    """Returns all tuples in shape order of built shapes with the weight n together."""
    rows = {0: {()}}
    for size in range(1, n + 1):
        rows[size] = {in_shape_order(row + (item,)) for low in range(1, size + 1) for item in joined_shapes(low)
                      for row in rows[size - low]}
    return rows[n]


def shape_counts():
    """Returns the numbers of built shapes of the weights up to 60, by multisets of the lighter ones."""
    counts = {}
    ways = {0: 1}
    for weight in range(1, 61):
        counts[weight] = ways.get(weight - 1, 0)
        more = dict(ways)
        for total, many in ways.items():
            for times in range(1, 60 // weight + 1):
                if weight <= 1 + total:
                    added = many * math.comb(counts[weight] + times - 1, times)
                    more[total + times * weight] = more.get(total + times * weight, 0) + added
        ways = more
    return counts


class CountsTest(CallCase):
    def test_listed_shapes(self):
        for n in range(1, 10):
            self.same(self.call(count_shapes, n), len(joined_shapes(n)))
            self.same(self.call(count_forest_shapes, n), len(rows_of_shapes(n)))

    def test_shapes_of_all_built_forests(self):
        for n in range(1, 6):
            found = set()
            for forest in arising_forests(n):
                found.add(in_shape_order(true_shape(forest, root) for root in roots(forest)))
            self.same(count_forest_shapes(n), len(found))

    def test_all_weights(self):
        for n, wanted in shape_counts().items():
            self.same(self.call(count_shapes, n), wanted)
            self.assertGreaterEqual(count_forest_shapes(n), wanted)

    def test_values_that_are_no_counts(self):
        for function in (count_shapes, count_forest_shapes, shapes_with, count_built_trees, count_built_forests):
            for value in NO_COUNTS:
                self.assertEqual(vars(self.refused(BadCount, function, value)), {})

    def test_more_than_24_vertices(self):
        for function in (count_built_trees, count_built_forests):
            for value in (25, 26, 60):
                self.refused(BadCount, function, value)


class ListingTest(CallCase):
    def test_listed_shapes(self):
        for n in range(1, 10):
            self.same(self.call(shapes_with, n), joined_shapes(n))
            self.same(self.call(walk_shapes, n), list(joined_shapes(n)))

    def test_greater_weights(self):
        for n in range(10, 20):
            found = self.call(shapes_with, n)
            self.assertEqual(len(found), shape_counts()[n])
            self.assertTrue(all(compare_shapes(one, other) == -1 for one, other in zip(found, found[1:])))
            self.assertTrue(all(is_built_shape(shape) and shape_weight(shape) == n for shape in found[::17]))

    def test_too_many(self):
        many = [n for n, count in shape_counts().items() if count > 2000]
        self.assertEqual(many[0], 20)
        for n in many:
            self.same(self.refused(TooMany, shapes_with, n).limit, 2000)


class IndexTest(CallCase):
    def check(self, n, index):
        shape = self.call(shape_at, n, index)
        self.assertIs(is_built_shape(shape), True)
        self.same(shape_weight(shape), n)
        self.same(self.call(shape_index, shape), index)
        return shape

    def test_listed_shapes(self):
        for n in range(1, 10):
            for index, shape in enumerate(joined_shapes(n)):
                self.same(self.check(n, index), shape)

    def test_drawn_indexes(self):
        chance = Random(96)
        for n in range(10, 61):
            many = count_shapes(n)
            drawn = sorted({0, 1, many - 2, many - 1, *[chance.randrange(many) for repeat in range(3)]})
            shapes = [self.check(n, index) for index in drawn]
            self.assertTrue(all(compare_shapes(one, other) == -1 for one, other in zip(shapes, shapes[1:])))
            self.same(shapes[0], ((),) * (n - 1))

    def test_indexes_that_do_not_exist(self):
        for n in (1, 2, 6, 9, 24, 60):
            for index in NO_INDEXES + (count_shapes(n), count_shapes(n) + 1):
                self.assertIs(self.refused(NoIndex, shape_at, n, index).index, index)

    def test_bad_count_comes_first(self):
        for n, index in product(NO_COUNTS, (0, 1) + NO_INDEXES):
            self.assertEqual(vars(self.refused(BadCount, shape_at, n, index)), {})

    def test_values_that_are_no_built_shapes(self):
        values = list(NO_SHAPES + MANY_KINDS) + [v for shape in joined_shapes(8) for v in variants(shape)]
        for value in values + list(all_shapes(6)):
            if is_built_shape(value):
                self.same(shape_at(shape_weight(value), self.call(shape_index, value)), value)
            else:
                self.assertEqual(vars(self.refused(BadShape, shape_index, value)), {})


class WalkTest(CallCase):
    def test_skips(self):
        for n in range(1, 13):
            shapes = list(walk_shapes(n))
            many = len(shapes)
            for skip in {0, 1, many // 2, many - 1, many, many + 1, 10 ** 39}:
                self.same(self.call(walk_shapes, n, skip=skip), shapes[skip:])

    def test_great_weights_left_early(self):
        for n in (30, 45, 60):
            many = count_shapes(n)
            for skip in (0, 1, many // 3, many - 2):
                walk = walk_shapes(n, skip=skip)
                self.assertTrue(inspect.isgenerator(walk))
                found = list(islice(walk, 4))
                self.same(found, [shape_at(n, index) for index in range(skip, min(skip + 4, many))])
            self.same(list(islice(walk_shapes(n, skip=many), 1)), [])

    def test_a_long_walk(self):
        found = list(islice(walk_shapes(60, skip=10 ** 12), 300))
        self.assertEqual(len(found), 300)
        self.assertTrue(all(compare_shapes(one, other) == -1 for one, other in zip(found, found[1:])))


class LabellingsTest(CallCase):
    def test_all_small_forests(self):
        for n in range(1, 6):
            trees = [forest for forest in all_forests(n) if len(roots(forest)) == 1]
            for shape in all_shapes(n):
                wanted = sum(true_shape(forest, roots(forest)[0]) == shape for forest in trees)
                self.same(self.call(count_labellings, shape), wanted, shape)

    def test_all_built_forests(self):
        for n in range(1, 5):
            built = [forest for forest in all_forests(n) if not true_heavy(forest)]
            self.same(self.call(count_built_forests, n), len(built))
            self.same(self.call(count_built_trees, n), sum(len(roots(forest)) == 1 for forest in built))

    def test_all_forests_that_arise(self):
        for n in range(1, 7):
            self.same(count_built_forests(n), len(arising_forests(n)))

    def test_sums_over_shapes(self):
        for n in range(1, 15):
            self.same(count_built_trees(n), sum(count_labellings(shape) for shape in walk_shapes(n)))

    def test_forests_by_the_tree_of_the_first_vertex(self):
        counts = [1]
        for n in range(1, 25):
            rows = [math.comb(n - 1, k - 1) * count_built_trees(k) * counts[n - k] for k in range(1, n + 1)]
            counts.append(sum(rows))
            self.same(count_built_forests(n), counts[n])

    def test_great_shapes(self):
        self.same(count_labellings(((),) * 59), 60)
        path = ()
        for step in range(59):
            path = (path,)
        self.same(count_labellings(path), math.factorial(60))
        self.same(count_labellings((((), ()), ((), ()))), math.factorial(7) // 8)

    def test_all_trees_of_a_weight(self):
        for n in range(1, 10):
            self.same(sum(count_labellings(shape) for shape in all_shapes(n)), n ** (n - 1))

    def test_values_that_are_no_shapes(self):
        for value in NO_SHAPES + MANY_KINDS:
            if not is_shape(value):
                self.assertEqual(vars(self.refused(BadShape, count_labellings, value)), {})


if __name__ == "__main__":
    unittest.main()
