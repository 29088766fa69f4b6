"""Tests of [37] to [41]: weights along a history, exchanges of neighbours, and paths between histories."""

import unittest
from itertools import combinations, product
from random import Random

from linkforests.errors import NoHistory
from linkforests.forests import single
from linkforests.histories import (
    first_history, free_exchanges, history_path, history_path_holds, last_history, weights_along,
)
from tests.support import (
    MANY_KINDS, CallCase, built_forests, is_true_history, joined_all, listed_histories, lower_vertices, nested,
    random_history, shaped_built, tops_of, unbuilt_forests, variants,
)


def neighbours(forest, history):
    """Returns the pairs of an index and the history that arises by the exchange there, where it is a history."""
    rows = []
    for at in range(len(history) - 1):
        other = history[:at] + (history[at + 1], history[at]) + history[at + 2:]
        if is_true_history(forest, other):
            rows.append((at, other))
    return rows


def pairs_in_order(history):
    return set(combinations(history, 2))


def distance(first, second):
    """Returns the number of pairs of vertices that have different orders."""
    return len(pairs_in_order(first) - pairs_in_order(second))


def is_true_path(forest, first, second, value):
    """Returns whether value is a shortest history path."""
    if type(value) is not tuple or not value or not all(is_true_history(forest, item) for item in value):
        return False
    steps = [distance(one, other) == 1 for one, other in zip(value, value[1:])]
    return (value[0], value[-1]) == (first, second) and all(steps) and len(steps) == distance(first, second)


def some_histories():
    """Returns triples of a built forest and two histories of it."""
    chance = Random(37)
    rows = []
    for forest in built_forests():
        rows.append((forest, random_history(chance, forest), random_history(chance, forest)))
        rows.append((forest, first_history(forest), last_history(forest)))
    return rows


class AlongTest(CallCase):
    def check(self, forest, history):
        pairs = []
        for at, vertex in enumerate(history):
            state = joined_all(len(forest), [(before, forest[before]) for before in history[:at]])
            pairs.append((tops_of(state).count(vertex), tops_of(state).count(forest[vertex])))
        self.same(self.call(weights_along, forest, history), tuple(pairs), (forest, history))
        exchanges = tuple(at for at, other in neighbours(forest, history))
        self.same(self.call(free_exchanges, forest, history), exchanges, (forest, history))

    def test_listed_forests(self):
        for forest in [forest for n in range(1, 7) for forest in shaped_built(n)]:
            for history in listed_histories(forest):
                self.check(forest, history)

    def test_large_forests(self):
        for forest, first, second in some_histories():
            self.check(forest, first)
            self.check(forest, second)

    def test_edges(self):
        self.same(weights_along((0,), ()), ())
        self.same(free_exchanges((0,), ()), ())
        self.same(free_exchanges((0, 0), (1,)), ())
        self.same(free_exchanges((0,) * 24, tuple(range(1, 24))), tuple(range(22)))
        self.same(weights_along((0,) * 24, tuple(range(1, 24))), tuple((1, weight) for weight in range(1, 24)))


class PathTest(CallCase):
    def check_path(self, forest, first, second):
        path = self.call(history_path, forest, first, second)
        self.assertTrue(is_true_path(forest, first, second, path), (forest, first, second, path))
        for present, following in zip(path, path[1:]):
            index = next(at for at in range(len(second)) if present[at] != second[at])
            place = present.index(second[index])
            self.same((following[place - 1], following[place]), (present[place], present[place - 1]))
        self.assertIs(self.call(history_path_holds, forest, first, second, path), True)
        return path

    def test_listed_forests(self):
        for forest in [forest for n in range(1, 6) for forest in shaped_built(n)]:
            for first, second in product(listed_histories(forest), repeat=2):
                self.check_path(forest, first, second)

    def test_large_forests(self):
        for forest, first, second in some_histories()[::2] + some_histories()[1::4]:
            self.check_path(forest, first, second)

    def test_the_longest_path(self):
        rising = tuple(range(1, 24))
        self.assertEqual(len(self.check_path((0,) * 24, rising, rising[::-1])), 23 * 22 // 2 + 1)

    def test_from_a_history_to_itself(self):
        for forest, first, second in some_histories():
            self.same(self.call(history_path, forest, first, first), (first,))
            self.assertIs(history_path_holds(forest, first, first, (first,)), True)
            self.assertIs(history_path_holds(forest, first, first, (first, first)), False)
            self.assertIs(history_path_holds(forest, first, first, ()), False)
            self.assertIs(history_path_holds(forest, first, first, first), False)


class PathHoldsTest(CallCase):
    def check(self, forest, first, second, value):
        wanted = is_true_path(forest, first, second, value)
        self.assertIs(self.call(history_path_holds, forest, first, second, value), wanted, (forest, value))
        return wanted

    def test_all_ways_in_small_forests(self):
        # All ways of so many exchanges, shortest or not, from anywhere to anywhere.
        for forest in [forest for n in range(1, 5) for forest in shaped_built(n)]:
            for first, second in product(listed_histories(forest), repeat=2):
                ways = [(history,) for history in listed_histories(forest)]
                for exchanges in range(4):
                    for way in ways:
                        self.check(forest, first, second, way)
                    ways = [way + (other,) for way in ways for at, other in neighbours(forest, way[-1])]

    def test_other_shortest_paths(self):
        chance = Random(41)
        others = 0
        for forest, first, second in some_histories():
            way = (second,)
            while way[0] != first:
                far = distance(way[0], first)
                nearer = [row for at, row in neighbours(forest, way[0]) if distance(row, first) < far]
                way = (chance.choice(nearer),) + way
            self.assertTrue(self.check(forest, first, second, way))
            others += way != history_path(forest, first, second)
        self.assertGreater(others, 50)

    def test_paths_with_a_part_changed(self):
        for forest in shaped_built(4) + shaped_built(5):
            histories = listed_histories(forest)
            for first, second in {(histories[0], histories[-1]), (histories[-1], histories[0])}:
                for value in variants(history_path(forest, first, second)):
                    self.check(forest, first, second, value)

    def test_large_paths_with_a_part_changed(self):
        for forest, first, second in some_histories()[::7]:
            path = history_path(forest, first, second)
            self.check(forest, first, second, list(path))
            self.check(forest, first, second, path[::-1])
            self.check(forest, first, second, path + path[-2:-1] + path[-1:])
            self.check(forest, first, second, path[:2] + path)
            for at in range(0, len(path), 1 + len(path) // 6):
                for step in (path[at:at + 1] * 2, (), (list(path[at]),), (path[at][::-1],), (None,), ((),)):
                    self.check(forest, first, second, path[:at] + step + path[at + 1:])

    def test_a_jump_and_a_detour_of_the_right_length(self):
        rows = ((1, 2, 3), (2, 1, 3), (2, 3, 1), (3, 2, 1))
        self.assertTrue(self.check((0,) * 4, rows[0], rows[3], rows))
        self.assertFalse(self.check((0,) * 4, rows[0], rows[3], (rows[0], rows[0], rows[2], rows[3])))
        self.assertFalse(self.check((0,) * 4, rows[0], rows[3], (rows[0], rows[3], rows[2], rows[3])))
        self.assertFalse(self.check((0,) * 4, rows[0], rows[2], (rows[0], rows[3], rows[2])))
        self.assertFalse(self.check((0,) * 4, rows[0], rows[3], (rows[0], rows[1], rows[0], rows[3])))
        self.assertFalse(self.check((0,) * 4, rows[0], rows[3], rows[:3] + ((2, 3, 1),)))
        self.assertFalse(self.check((0,) * 4, rows[0], rows[3], ((2, 1, 3), (2, 3, 1), (3, 2, 1), (3, 2, 1))))

    def test_steps_that_are_no_histories(self):
        # The two vertices 2 and 3 have different orders, and (2, ..) cannot come first.
        forest = (0, 0, 0, 0, 2, 3)
        first, second = (1, 4, 5, 2, 3), (1, 4, 5, 3, 2)
        self.assertTrue(self.check(forest, first, second, (first, second)))
        self.assertFalse(self.check(forest, first, second, (first, (1, 4, 2, 5, 3))))
        self.assertFalse(self.check((0, 0, 0, 2), (1, 3, 2), (3, 1, 2), ((1, 3, 2), (1, 2, 3), (3, 1, 2))))

    def test_bools_are_no_vertices(self):
        self.assertFalse(self.check((0, 0, 0), (1, 2), (2, 1), ((True, 2), (2, 1))))
        self.assertFalse(self.check((0, 0, 0), (1, 2), (2, 1), ((1, 2), (2, True))))
        self.assertFalse(self.check((1, 1, 1), (0, 2), (2, 0), ((False, 2), (2, 0))))

    def test_values_of_other_kinds(self):
        for forest, first in (((0,), ()), ((0, 0), (1,)), ((0, 0, 0, 2), (1, 3, 2)), ((0,) * 24, tuple(range(1, 24)))):
            for value in MANY_KINDS + (nested(60), nested(59), (None,), ([1],), ((True,),), "()", tuple(range(4000))):
                self.check(forest, first, first, value)


class NoHistoryTest(CallCase):
    def check(self, forest, value, history):
        for function in (weights_along, free_exchanges):
            self.assertEqual(vars(self.refused(NoHistory, function, forest, value)), {})
        for first, second in ((value, history), (history, value), (value, value)):
            self.assertEqual(vars(self.refused(NoHistory, history_path, forest, first, second)), {})
            for path in ((), None, [first], (first,), (first, second), 7, nested(60)):
                error = self.refused(NoHistory, history_path_holds, forest, first, second, path)
                self.assertEqual(vars(error), {})

    def test_histories_with_a_part_changed(self):
        chance = Random(38)
        for forest in built_forests()[::10] + ((0, 0), (1, 1)):
            history = random_history(chance, forest)
            for value in variants(history):
                if not is_true_history(forest, value):
                    self.check(forest, value, history)

    def test_values_of_other_kinds(self):
        for forest in ((0, 0), (0, 0, 0, 2), (0,) * 24):
            for value in MANY_KINDS + (nested(60), nested(59), (True,), [1]):
                self.check(forest, value, lower_vertices(forest))
        for value in MANY_KINDS:
            if value != ():
                self.check(single(24), value, ())

    def test_forests_that_are_not_built(self):
        for forest in unbuilt_forests()[::8]:
            self.check(forest, lower_vertices(forest), ())


if __name__ == "__main__":
    unittest.main()
