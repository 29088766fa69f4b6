"""Tests of [2] and [3] for growth, depths and shapes: what holds of several functions together."""

import unittest
from random import Random

from linkforests.builds import is_built
from linkforests.depths import (
    deepest_forest, depths, doubling_height, thin_vertices, total_depth, tree_with_total_depth, vertex_heights,
)
from linkforests.forests import renamed
from linkforests.growth import (
    common_start, count_growths, count_starts, growth_certificate, growth_holds, grows_from, left_vertices, merge_starts,
    next_joins, obstacles, starts_of,
)
from linkforests.histories import count_histories
from linkforests.shapes import (
    count_built_forests, count_labellings, forest_of, shape_at, shape_of, shapes_of, shapes_with,
)
from tests.support import (
    CallCase, any_pairs, built_forests, growing_pairs, large_forests, path_above, true_weights, with_item,
)


def called(names, row):
    return tuple(sorted(names[vertex] for vertex in row))


def named_pairs():
    """Returns rows of a pair of forests, new names for their vertices, and the pair with these names."""
    chance = Random(58)
    rows = []
    for one, other in any_pairs():
        names = tuple(chance.sample(range(len(one)), len(one)))
        rows.append((one, other, names, renamed(one, names), renamed(other, names)))
    return rows


class NamesTest(CallCase):
    """Renaming the vertices renames all results, and changes no number."""

    def test_pairs(self):
        for one, other, names, first, second in named_pairs():
            self.same(left_vertices(first, second), called(names, left_vertices(one, other)))
            found = sorted((word, names[vertex]) for word, vertex in obstacles(one, other))
            self.same(obstacles(first, second), tuple(found))
            self.same(count_growths(first, second), count_growths(one, other))
            word, part = growth_certificate(one, other)
            part = tuple(names[vertex] for vertex in part) if word == "growth" else names[part]
            self.assertIs(growth_holds(first, second, (word, part)), True)
            if word == "growth":
                self.same(next_joins(first, second), called(names, next_joins(one, other)))

    def test_starts(self):
        for one, other, names, first, second in named_pairs()[::3]:
            if is_built(one) and is_built(other):
                self.same(count_starts(second), count_starts(other))
                self.same(common_start(first, second), renamed(common_start(one, other), names))
                if len(one) < 9:
                    starts = starts_of(other)
                    self.same(starts_of(second), tuple(sorted(renamed(start, names) for start in starts)))
                    merged = merge_starts(second, *[renamed(start, names) for start in starts[1::3]][:8])
                    self.same(merged, renamed(merge_starts(other, *starts[1::3][:8]), names))

    def test_depths_and_shapes(self):
        for one, other, names, first, second in named_pairs():
            for function in (depths, vertex_heights):
                self.same([function(first)[name] for name in names], list(function(one)))
            self.same(thin_vertices(first), called(names, thin_vertices(one)))
            self.same((total_depth(first), doubling_height(first)), (total_depth(one), doubling_height(one)))
            self.same(shapes_of(first), shapes_of(one))
            self.same([shape_of(second, name) for name in names], [shape_of(other, v) for v in range(len(one))])


class TogetherTest(CallCase):
    def test_every_beginning_can_be_finished(self):
        chance = Random(60)
        for one, other in growing_pairs():
            while one != other:
                vertex = chance.choice(next_joins(one, other))
                one = with_item(one, vertex, other[vertex])
                self.assertGreater(count_growths(one, other), 0)

    def test_growth_is_a_matter_of_obstacles(self):
        for one, other in any_pairs():
            self.assertIs(grows_from(other, one), obstacles(one, other) == ())
            self.assertIs(grows_from(other, one), growth_certificate(one, other)[0] == "growth")
            self.assertIs(grows_from(other, tuple(range(len(other)))), is_built(other))

    def test_growth_goes_on(self):
        for one, other in growing_pairs():
            if is_built(one):
                self.assertIs(is_built(other), True)
                self.assertGreaterEqual(count_histories(other), count_histories(one) * count_growths(one, other))

    def test_a_deep_vertex_needs_a_heavy_tree(self):
        for forest in built_forests() + tuple(deepest_forest(n) for n in range(1, 25)):
            sizes = true_weights(forest)
            for vertex, depth in enumerate(depths(forest)):
                self.assertGreaterEqual(sizes[[vertex, *path_above(forest, vertex)][-1]], 2 ** depth)
            for vertex, height in enumerate(vertex_heights(forest)):
                self.assertGreaterEqual(sizes[vertex], 2 ** height)

    def test_labellings_and_shapes_count_forests(self):
        for n in range(1, 6):
            total = sum(count_labellings(shape[0]) for shape in [shapes_of(f) for f in tree_forests(n)])
            self.assertEqual(total, sum(count_labellings(shape) for shape in shapes_with(n)))
            self.assertGreaterEqual(count_built_forests(n), total)


def tree_forests(n):
    """Returns one forest for each built shape of weight n."""
    return [forest_of(shape) for shape in shapes_with(n)]


class EqualCallsTest(CallCase):
    def twice(self, function, *given):
        self.same(self.call(function, *given), self.call(function, *given))

    def test_functions_whose_results_are_free(self):
        for one, other in any_pairs()[::3]:
            self.twice(growth_certificate, one, other)
            self.twice(obstacles, one, other)
        for n in range(1, 25):
            self.twice(tree_with_total_depth, n, n)
            self.twice(shape_at, n, 0)
        for forest in large_forests()[::5]:
            self.twice(shapes_of, forest)
            self.twice(depths, forest)


if __name__ == "__main__":
    unittest.main()
