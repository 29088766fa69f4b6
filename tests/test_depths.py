"""Tests of [77] to [86]: depths, heights, and built forests that are as deep or as high as can be."""

import unittest
from functools import lru_cache
from random import Random

from linkforests.builds import is_built
from linkforests.depths import (
    deepest_forest, depths, doubling_height, greatest_height, greatest_total_depth, thin_vertices, total_depth,
    tree_with_height, tree_with_total_depth, vertex_heights,
)
from linkforests.errors import BadCount
from linkforests.forests import is_forest, renamed, roots
from tests.support import (
    CallCase, arising_forests, built_forests, down_path, nested, path_above, sample_forests, true_weights, up_path,
    with_other_parent,
)

NO_COUNTS = (0, -1, -(10 ** 12), 10 ** 12 + 1, 10 ** 39, True, False, None, "", "1", (), (1,), [], [1], {}, nested(60))
NO_INTEGERS = (True, False, None, "", "0", "1", "2", (), (1,), [], [1], {}, {"1": 1}, nested(60))


def true_depths(forest):
    return tuple(len(path_above(forest, vertex)) for vertex in range(len(forest)))


def true_heights(forest):
    """Returns the heights of all vertices, found from the depths of those below them."""
    tops = []
    for vertex, depth in enumerate(true_depths(forest)):
        below = [v for v in range(len(forest)) if v == vertex or vertex in path_above(forest, v)]
        tops.append(max(true_depths(forest)[v] for v in below) - depth)
    return tuple(tops)


@lru_cache(maxsize=None)
def deepest(n):
    """Returns the greatest height and the greatest total depth of a tree with n vertices, over all last joins."""
    rows = [(0, 0)] if n == 1 else []
    for low in range(1, n // 2 + 1):
        one, other = deepest(low), deepest(n - low)
        rows.append((max(one[0] + 1, other[0]), one[1] + other[1] + low))
    return max(height for height, total in rows), max(total for height, total in rows)


class VerticesTest(CallCase):
    def test_sample_forests(self):
        for forest in sample_forests() + list(built_forests()):
            self.same(self.call(depths, forest), true_depths(forest))
            self.same(self.call(vertex_heights, forest), true_heights(forest))
            self.same(self.call(total_depth, forest), sum(true_depths(forest)))
            sizes = true_weights(forest)
            thin = [v for v, height in enumerate(true_heights(forest)) if sizes[v] < 2 ** height]
            self.same(self.call(thin_vertices, forest), tuple(thin))

    def test_the_total_depth_is_the_sum_of_the_lower_weights(self):
        for forest in sample_forests():
            sizes = true_weights(forest)
            self.same(total_depth(forest), sum(sizes[v] for v, parent in enumerate(forest) if v != parent))

    def test_built_forests_have_no_thin_vertices(self):
        for forest in built_forests():
            self.same(thin_vertices(forest), ())

    def test_a_forest_without_thin_vertices_need_not_be_built(self):
        forest = (0, 0, 1, 1, 0)
        self.same(thin_vertices(forest), ())
        self.assertIs(is_built(forest), False)

    def test_paths_and_stars(self):
        for n in range(1, 25):
            self.same(depths(up_path(n)), tuple(range(n)))
            self.same(vertex_heights(up_path(n)), tuple(range(n - 1, -1, -1)))
            self.same(depths(down_path(n)), tuple(range(n - 1, -1, -1)))
            self.same(total_depth(up_path(n)), n * (n - 1) // 2)
            self.same(total_depth((0,) * n), n - 1)
            self.same(thin_vertices(up_path(n)), tuple(range(max(n - 2, 0))))


class GreatestTest(CallCase):
    def test_all_ways_to_join_two_trees(self):
        for n in range(1, 61):
            self.same((self.call(greatest_height, n), self.call(greatest_total_depth, n)), deepest(n), n)

    def test_all_built_forests(self):
        for n in range(1, 7):
            self.same(max(max(true_heights(forest)) for forest in arising_forests(n)), greatest_height(n))
            self.same(max(sum(true_depths(forest)) for forest in arising_forests(n)), greatest_total_depth(n))

    def test_powers_of_two(self):
        for digits in range(1, 40):
            power = 2 ** digits
            if power < 10 ** 12:
                self.same([greatest_height(power - 1), greatest_height(power)], [digits - 1, digits])
                self.same(greatest_total_depth(power), digits * power // 2)
                self.same(greatest_total_depth(power + 1), digits * power // 2 + 1)
                self.same(greatest_total_depth(power - 1), digits * power // 2 - digits)
                self.same(greatest_height(power + 1), digits if power > 1 else 0)

    def test_counts_of_digits(self):
        total = 0
        for n in range(1, 3000):
            self.same(greatest_total_depth(n), total)
            total += bin(n).count("1")
        for n in (10 ** 12, 10 ** 12 - 1, 10 ** 11 + 7):
            self.same(greatest_height(n), len(bin(n)) - 3)
            low = n // 2
            wanted = greatest_total_depth(low) + greatest_total_depth(n - low) + low
            self.same(greatest_total_depth(n), wanted)

    def test_values_that_are_no_counts(self):
        for value in NO_COUNTS:
            for function in (greatest_height, greatest_total_depth):
                self.assertEqual(vars(self.refused(BadCount, function, value)), {})


class TreesTest(CallCase):
    def check_tree(self, forest, n):
        self.assertIs(is_forest(forest), True)
        self.assertEqual(len(forest), n)
        self.assertEqual(len(roots(forest)), 1)
        self.assertIs(is_built(forest), True)

    def test_deepest_forests(self):
        for n in range(1, 25):
            forest = self.call(deepest_forest, n)
            self.check_tree(forest, n)
            wanted = [int("0" + bin(v)[2:].rstrip("0")[:-1] + "0" * trailing(v) + "0", 2) for v in range(1, n)]
            self.same(forest, (0, *wanted))
            self.same((max(true_heights(forest)), sum(true_depths(forest))), deepest(n))

    def test_heights(self):
        for n in range(1, 25):
            for height in range(-1, 7):
                found = self.call(tree_with_height, n, height)
                if height in ([0] if n == 1 else range(1, deepest(n)[0] + 1)):
                    self.check_tree(found, n)
                    size = 2 ** height
                    self.same(found, deepest_forest(size) + (0,) * (n - size))
                    self.same(true_heights(found)[0], height)
                else:
                    self.assertIs(found, None)

    def test_small_trees_of_all_heights(self):
        for n in range(1, 7):
            trees = [forest for forest in arising_forests(n) if len(roots(forest)) == 1]
            tops = {max(true_heights(forest)) for forest in trees}
            totals = {sum(true_depths(forest)) for forest in trees}
            self.assertEqual(tops, {height for height in range(-1, 9) if tree_with_height(n, height)})
            self.assertEqual(totals, {total for total in range(-1, 30) if tree_with_total_depth(n, total)})

    def test_total_depths(self):
        for n in range(1, 25):
            for total in range(-2, greatest_total_depth(n) + 3):
                found = self.call(tree_with_total_depth, n, total)
                if n - 1 <= total <= deepest(n)[1]:
                    self.check_tree(found, n)
                    self.same(sum(true_depths(found)), total)
                    self.same(tree_with_total_depth(n, total), found)
                else:
                    self.assertIs(found, None)

    def test_values_that_are_no_integers(self):
        for n in (1, 2, 3, 24):
            for value in NO_INTEGERS + (10 ** 39, -(10 ** 39)):
                self.assertIs(self.call(tree_with_height, n, value), None)
                self.assertIs(self.call(tree_with_total_depth, n, value), None)


def trailing(number):
    """Returns how many zeros the binary form of a number ends in."""
    return len(bin(number)) - len(bin(number).rstrip("0"))


def doubled(chance, digits):
    """Returns a tree that arises by joins of equal trees only."""
    if digits == 0:
        return (0,)
    one, other = doubled(chance, digits - 1), doubled(chance, digits - 1)
    size = len(one)
    top = [v for v, parent in enumerate(other) if v == parent][0]
    low = [v for v, parent in enumerate(one) if v == parent][0]
    parents = list(one) + [size + parent for parent in other]
    parents[size + top] = low
    names = tuple(chance.sample(range(2 * size), 2 * size))
    return renamed(tuple(parents), names)


def true_doubling(forest):
    """Returns the result of doubling_height, found by taking halves off again and again."""
    sizes = true_weights(forest)
    tops = roots(forest)
    for vertex in range(len(forest)):
        found = sorted(sizes[v] for v, parent in enumerate(forest) if parent == vertex != v)
        if found != [2 ** at for at in range(len(found))]:
            return None
    return forest.count(tops[0]) - 1 if len(tops) == 1 else None


class DoublingTest(CallCase):
    def test_trees_by_joins_of_equal_trees(self):
        chance = Random(86)
        for digits in range(5):
            for repeat in range(30):
                forest = doubled(chance, digits)
                self.same(self.call(doubling_height, forest), digits, forest)
                changed = with_other_parent(chance, forest)
                self.same(self.call(doubling_height, changed), true_doubling(changed), changed)

    def test_all_trees_by_joins_of_equal_trees(self):
        for n in range(1, 5):
            equal = {(0,): 0, (0, 0): 1, (1, 1): 1}
            for forest in arising_forests(n):
                if n == 4 and len(roots(forest)) == 1 and max(true_heights(forest)) == 2:
                    equal[forest] = 2
                self.same(doubling_height(forest), equal.get(forest), forest)

    def test_sample_forests(self):
        for forest in sample_forests():
            self.same(self.call(doubling_height, forest), true_doubling(forest))

    def test_several_trees(self):
        self.same(doubling_height((0, 1)), None)
        self.same(doubling_height((0, 0, 2, 2)), None)


if __name__ == "__main__":
    unittest.main()
