"""Tests of [7] to [13]: the parts of a forest, and forests with other names."""

import unittest
from copy import deepcopy
from itertools import permutations
from random import Random

from linkforests.errors import LinkError, NoVertex
from linkforests.forests import children_of, forest_error, path_of, renamed, roots, single, tree_of, weights
from tests.support import down_path, large_forests, not_vertices, sample_forests, small_forests, up_path


def parts_below(forest):
    """Returns for each vertex the list of the vertices of its tree, found from the top down."""
    below = [[vertex] for vertex in range(len(forest))]
    for tree in below:
        for vertex in tree:
            tree += [child for child in range(len(forest)) if forest[child] == vertex and child not in tree]
    return below


def reverse_of(names):
    return tuple(names.index(vertex) for vertex in range(len(names)))


class PartsTest(unittest.TestCase):
    def same(self, found, wanted):
        """Checks a tuple of integers, among which True and False do not count."""
        self.assertIs(type(found), tuple)
        self.assertEqual(found, wanted)
        self.assertEqual({type(item) for item in found} - {int}, set())

    def test_single(self):
        for n in range(1, 25):
            with self.subTest(n=n):
                self.same(single(n), tuple(range(n)))
                self.assertIsNone(forest_error(single(n)))

    def test_roots(self):
        for forest in sample_forests():
            with self.subTest(forest=forest):
                ends = {path_of(forest, vertex)[-1] for vertex in range(len(forest))}
                self.same(roots(forest), tuple(sorted(ends)))
        self.same(roots(single(24)), tuple(range(24)))
        self.same(roots(up_path(24)), (0,))
        self.same(roots(down_path(24)), (23,))
        self.same(roots((1, 1, 2, 1)), (1, 2))

    def test_children_of(self):
        for forest in sample_forests():
            for vertex in range(len(forest)):
                with self.subTest(forest=forest, vertex=vertex):
                    wanted = [child for child in range(len(forest)) if forest[child] == vertex]
                    self.same(children_of(forest, vertex), tuple(child for child in wanted if child != vertex))
        self.same(children_of((0,), 0), ())
        self.same(children_of((3, 3, 3, 3), 3), (0, 1, 2))
        self.same(children_of(up_path(24), 22), (23,))

    def test_weights(self):
        for forest in sample_forests():
            with self.subTest(forest=forest):
                self.same(weights(forest), tuple(len(tree) for tree in parts_below(forest)))
        self.same(weights((0,)), (1,))
        self.same(weights(up_path(24)), tuple(range(24, 0, -1)))
        self.same(weights(down_path(24)), tuple(range(1, 25)))

    def test_path_of(self):
        for forest in sample_forests():
            for vertex in range(len(forest)):
                with self.subTest(forest=forest, vertex=vertex):
                    path = path_of(forest, vertex)
                    self.same(path, (vertex,) + tuple(forest[step] for step in path[:-1]))
                    self.assertEqual(forest[path[-1]], path[-1])
                    self.assertEqual(len(set(path)), len(path))
        self.same(path_of((0,), 0), (0,))
        self.same(path_of(up_path(24), 23), tuple(range(23, -1, -1)))
        self.same(path_of(down_path(24), 0), tuple(range(24)))

    def test_tree_of(self):
        for forest in sample_forests():
            trees = parts_below(forest)
            for vertex in range(len(forest)):
                with self.subTest(forest=forest, vertex=vertex):
                    self.same(tree_of(forest, vertex), tuple(sorted(trees[vertex])))
        self.same(tree_of((0,), 0), (0,))
        self.same(tree_of(up_path(24), 0), tuple(range(24)))
        self.same(tree_of((3, 0, 1, 3), 1), (1, 2))

    def test_values_that_are_no_vertices(self):
        for function in (children_of, path_of, tree_of):
            for forest in ((0,), (0, 0), (2, 2, 2, 0), up_path(24), single(24)):
                for value in not_vertices(len(forest)):
                    with self.subTest(function=function.__name__, forest=forest, value=value):
                        before = deepcopy(value)
                        with self.assertRaises(LinkError) as caught:
                            function(forest, value)
                        self.assertIs(type(caught.exception), NoVertex)
                        self.assertIs(caught.exception.value, value)
                        self.assertEqual(value, before)

    def test_forests_are_as_they_were(self):
        for forest in large_forests():
            before = tuple(list(forest))
            names = tuple(reversed(range(len(forest))))
            done = [roots(forest), weights(forest), renamed(forest, names)]
            done += [function(forest, 0) for function in (children_of, path_of, tree_of)]
            self.assertEqual(len(done), 6)
            self.assertEqual(forest, before)


class RenamedTest(unittest.TestCase):
    def check(self, forest, names):
        before = (tuple(list(forest)), tuple(list(names)))
        other = renamed(forest, names)
        self.assertIs(type(other), tuple)
        self.assertIsNone(forest_error(other))
        for vertex, name in enumerate(names):
            self.assertEqual(other[name], names[forest[vertex]])
        self.assertEqual((forest, names), before)
        self.assertEqual(renamed(other, reverse_of(names)), forest)
        self.check_parts(forest, other, names)

    def check_parts(self, forest, other, names):
        self.assertEqual(roots(other), tuple(sorted(names[root] for root in roots(forest))))
        for vertex, weight in enumerate(weights(forest)):
            self.assertEqual(weights(other)[names[vertex]], weight)

    def test_all_names_of_small_forests(self):
        for forest in small_forests():
            for names in permutations(range(len(forest))):
                with self.subTest(forest=forest, names=names):
                    self.check(forest, names)

    def test_names_of_large_forests(self):
        chance = Random(7)
        for forest in large_forests():
            names = tuple(chance.sample(range(len(forest)), len(forest)))
            with self.subTest(forest=forest, names=names):
                self.check(forest, names)

    def test_names_that_change_nothing(self):
        for forest in large_forests():
            with self.subTest(forest=forest):
                self.assertEqual(renamed(forest, tuple(range(len(forest)))), forest)


if __name__ == "__main__":
    unittest.main()
