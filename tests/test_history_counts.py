"""Tests of [26] to [31] and [42]: what a history is, and how many there are."""

import inspect
import unittest
from itertools import islice, permutations
from math import factorial
from random import Random

from linkforests.builds import beside
from linkforests.errors import NoVertex, TooMany
from linkforests.forests import children_of, roots, single, tree_of, weights
from linkforests.histories import (
    count_child_orders, count_histories, count_tree_histories, each_history, histories_of, is_history,
)
from tests.support import (
    MANY_KINDS, CallCase, all_forests, binomial_tree, built_forests, is_true_history, large_forests, listed_histories,
    lower_vertices, nested, not_vertices, random_forest, random_history, shaped_forests, small_forests,
    unbuilt_forests, up_path, variants,
)


def listed_forests():
    """Returns all forests of up to five vertices, and one of each shape of six and seven."""
    return small_forests() + all_forests(5) + list(shaped_forests(6)) + list(shaped_forests(7))


def true_child_orders(forest, vertex):
    """Returns the number of orders of the children, found by trying all of them."""
    loads = weights(forest)
    count = 0
    for order in permutations(children_of(forest, vertex)):
        count += all(loads[child] <= 1 + sum(loads[c] for c in order[:at]) for at, child in enumerate(order))
    return count


def tree_alone(forest, vertex):
    """Returns the tree of the vertex as a forest of its own."""
    tree = tree_of(forest, vertex)
    return tuple(tree.index(below if below == vertex else forest[below]) for below in tree)


def count_by_sets(forest):
    """Returns the number of histories, found by adding up over all sets of vertices that are joined first."""
    loads = weights(forest)
    counts = {frozenset(): 1}
    for step in lower_vertices(forest):
        longer = {}
        for joined, count in counts.items():
            for vertex in lower_vertices(forest):
                if vertex not in joined and joined.issuperset(children_of(forest, vertex)):
                    before = [loads[child] for child in children_of(forest, forest[vertex]) if child in joined]
                    if loads[vertex] <= 1 + sum(before):
                        longer[joined | {vertex}] = longer.get(joined | {vertex}, 0) + count
        counts = longer
    return sum(counts.values())


class HistoryTest(CallCase):
    def test_all_orders_in_small_forests(self):
        for forest in small_forests():
            histories = listed_histories(forest)
            for size in range(len(forest) + 1):
                for order in permutations(range(len(forest)), size):
                    self.assertIs(self.call(is_history, forest, order), order in histories, (forest, order))

    def test_all_orders_in_forests_of_each_shape(self):
        for forest in shaped_forests(5) + shaped_forests(6):
            histories = listed_histories(forest)
            for order in permutations(lower_vertices(forest)):
                self.assertIs(is_history(forest, order), order in histories, (forest, order))

    def test_histories_of_large_forests_with_a_part_changed(self):
        chance = Random(27)
        for forest in built_forests()[::3]:
            history = random_history(chance, forest)
            self.assertIs(self.call(is_history, forest, history), True)
            for value in variants(history):
                self.assertIs(self.call(is_history, forest, value), is_true_history(forest, value), (forest, value))

    def test_forests_that_are_not_built(self):
        chance = Random(28)
        for forest in unbuilt_forests():
            for repeat in range(5):
                order = tuple(chance.sample(lower_vertices(forest), len(lower_vertices(forest))))
                self.assertIs(self.call(is_history, forest, order), False)

    def test_values_of_other_kinds(self):
        for forest in ((0,), (0, 0), (1, 1), (0, 0, 1), up_path(24), (0,) * 24, single(24)):
            for value in MANY_KINDS + (nested(60), nested(59), tuple(range(4000)), (1,) * 23, [1], (True,), (False,)):
                self.assertIs(self.call(is_history, forest, value), is_true_history(forest, value), (forest, value))


class CountTest(CallCase):
    def test_child_orders(self):
        for forest in listed_forests():
            for vertex in range(len(forest)):
                found = self.call(count_child_orders, forest, vertex)
                self.same(found, true_child_orders(forest, vertex), (forest, vertex))

    def test_child_orders_of_mixed_weights(self):
        chance = Random(29)
        for forest in large_forests() + list(built_forests()):
            vertex = chance.randrange(len(forest))
            if len(children_of(forest, vertex)) <= 6:
                self.same(self.call(count_child_orders, forest, vertex), true_child_orders(forest, vertex))

    def test_tree_histories(self):
        for forest in listed_forests():
            for vertex in range(len(forest)):
                alone = listed_histories(tree_alone(forest, vertex))
                self.same(self.call(count_tree_histories, forest, vertex), len(alone), (forest, vertex))

    def test_histories(self):
        for forest in listed_forests():
            self.same(self.call(count_histories, forest), len(listed_histories(forest)), forest)

    def test_histories_of_forests_of_middle_size(self):
        chance = Random(30)
        forests = [forest for forest in built_forests() if 8 <= len(forest) <= 13]
        forests += [random_forest(chance, n) for n in range(8, 13)]
        for forest in forests:
            self.same(self.call(count_histories, forest), count_by_sets(forest), forest)

    def test_many_single_children(self):
        for n in range(1, 25):
            star = (n - 1,) * n
            self.same(self.call(count_child_orders, star, n - 1), factorial(n - 1))
            self.same(self.call(count_tree_histories, star, n - 1), factorial(n - 1))
            self.same(self.call(count_histories, star), factorial(n - 1))
            self.same(self.call(count_child_orders, star, 0), 1)
            self.same(self.call(count_tree_histories, star, 0), 1)

    def test_single_vertices_beside_a_star(self):
        for n in range(1, 24):
            forest = beside((0,) * n, single(24 - n))
            self.same(self.call(count_histories, forest), factorial(n - 1))

    def test_stars_side_by_side(self):
        self.same(count_histories(beside((0,) * 12, (0,) * 12)), factorial(22))
        self.same(count_histories(beside((0,) * 8, (0,) * 8, (0,) * 8)), factorial(21))
        self.same(count_histories(beside(*[(0, 0)] * 12)), factorial(12))

    def test_a_heavy_vertex_among_single_ones(self):
        # The vertex of the weight 12 and all below it come after 11 single siblings.
        forest = (0,) * 13 + (12,) * 11
        self.same(count_child_orders(forest, 0), factorial(11))
        self.same(count_tree_histories(forest, 12), factorial(11))
        self.same(count_histories(forest), factorial(22))

    def test_a_light_vertex_among_single_ones(self):
        # Of 22 children the one with the weight 2 cannot be the first.
        forest = (0,) * 22 + (21,)
        self.same(count_child_orders(forest, 0), factorial(21) - factorial(20))

    def test_forests_that_are_not_built(self):
        for forest in unbuilt_forests():
            self.same(self.call(count_histories, forest), 0)
        self.same(count_tree_histories((0, 0, 1), 0), 0)
        self.same(count_tree_histories((0, 0, 1), 1), 1)
        self.same(count_child_orders(up_path(24), 0), 0)
        self.same(count_child_orders(up_path(24), 22), 1)

    def test_only_the_children_count_for_their_orders(self):
        self.same(count_child_orders((0, 0, 0, 0, 3, 4), 0), 2)
        self.same(count_tree_histories((0, 0, 0, 0, 3, 4), 0), 0)

    def test_one_tree_is_the_whole_forest(self):
        for forest in built_forests():
            if len(roots(forest)) == 1:
                self.same(count_tree_histories(forest, roots(forest)[0]), count_histories(forest))

    def test_values_that_are_no_vertices(self):
        for function in (count_child_orders, count_tree_histories):
            for forest in ((0,), (0, 0), (0, 0, 1), (2, 2, 2, 0), up_path(24), single(24)):
                for value in not_vertices(len(forest)):
                    self.assertIs(self.refused(NoVertex, function, forest, value).value, value)


class ListTest(CallCase):
    def test_listed_forests(self):
        for forest in listed_forests():
            self.same(self.call(histories_of, forest), listed_histories(forest), forest)
            self.same(self.call(each_history, forest), list(listed_histories(forest)), forest)

    def test_more_than_can_be_listed(self):
        for forest in built_forests() + ((0,) * 8, (0,) * 24, binomial_tree(24)):
            if count_histories(forest) > 2000:
                self.same(self.refused(TooMany, histories_of, forest).limit, 2000)
            else:
                self.assertEqual(len(self.call(histories_of, forest)), count_histories(forest))

    def test_forests_that_are_not_built(self):
        for forest in unbuilt_forests():
            self.same(self.call(histories_of, forest), ())
            self.same(self.call(each_history, forest), [])

    def test_just_below_and_above_what_can_be_listed(self):
        below, above = (6, 6, 0, 0, 8, 0, 6, 9, 6, 9), (5, 6, 5, 0, 0, 5, 5, 5, 6)
        self.same((count_histories(below), count_histories(above)), (1920, 2016))
        found = self.call(histories_of, below)
        self.assertEqual(len(found), 1920)
        self.assertEqual(list(found), sorted(set(found)))
        self.assertTrue(all(is_true_history(below, history) for history in found))
        self.assertEqual(self.call(each_history, below), list(found))
        self.same(self.refused(TooMany, histories_of, above).limit, 2000)
        self.assertEqual(len(set(self.call(each_history, above))), 2016)

    def test_left_early(self):
        for forest in ((0,) * 24, binomial_tree(24), beside((0,) * 12, (0,) * 12)):
            rows = list(islice(each_history(forest), 300))
            self.assertEqual(rows, sorted(set(rows)))
            self.assertEqual(len(rows), 300)
            self.assertTrue(all(is_true_history(forest, row) for row in rows))
        star = [tuple(range(1, 20)) + rest for rest in permutations(range(20, 24))]
        self.assertEqual(list(islice(each_history((0,) * 24), 24)), star)

    def test_each_history_is_a_generator(self):
        self.assertTrue(inspect.isgenerator(each_history((0,) * 24)))
        self.assertTrue(inspect.isgenerator(each_history((0, 0, 1))))


if __name__ == "__main__":
    unittest.main()
