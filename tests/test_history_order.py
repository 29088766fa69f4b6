"""Tests of [32] to [36]: histories in their order, and their indexes."""

import unittest
from itertools import permutations, product
from random import Random

from linkforests.builds import beside
from linkforests.errors import NoBeginning, NoHistory, NoIndex, NotBuilt
from linkforests.forests import single
from linkforests.histories import (
    count_histories, first_history, history_at, history_index, last_history, next_history,
)
from tests.support import (
    MANY_KINDS, CallCase, binomial_tree, built_forests, is_true_beginning, is_true_history, listed_beginnings,
    listed_histories, lower_vertices, nested, random_beginning, random_history, shaped_built, shaped_forests,
    small_forests, true_heavy, unbuilt_forests, up_path, variants,
)


def listed_forests():
    """Returns forests of up to seven vertices, built or not."""
    return [forest for n in range(1, 7) for forest in shaped_forests(n)] + shaped_built(7) + small_forests()


def strange_indexes(count):
    """Returns values that are no indexes if there are count histories."""
    return (
        count, count + 1, -1, -count, -count - 1, True, False, None, "", "0", (), (0,), [0], {}, {"0": 0},
        int("9" * 40), -int("9" * 40), nested(60),
    )


class EndsTest(CallCase):
    def check_unbuilt(self, forest, *begun):
        for function in (first_history, last_history):
            error = self.refused(NotBuilt, function, forest, *begun)
            self.assertIn(error.vertex, true_heavy(forest))
            self.assertIs(type(error.vertex), int)

    def check(self, forest, *begun):
        """Checks both functions in a small built forest against a listing."""
        fitting = [row for row in listed_histories(forest) if repr(row[:len(begun)]) == repr(begun)]
        if fitting:
            self.same(self.call(first_history, forest, *begun), fitting[0], (forest, begun))
            self.same(self.call(last_history, forest, *begun), fitting[-1], (forest, begun))
        else:
            self.check_no_beginning(forest, *begun)

    def check_no_beginning(self, forest, *begun):
        for function in (first_history, last_history):
            self.assertEqual(vars(self.refused(NoBeginning, function, forest, *begun)), {})

    def test_beginnings_of_up_to_three_vertices(self):
        for forest in listed_forests():
            for size in range(4):
                for begun in permutations(range(len(forest)), size):
                    if listed_histories(forest):
                        self.check(forest, *begun)
                    elif len(forest) < 5:
                        self.check_unbuilt(forest, *begun)

    def test_whole_histories(self):
        for forest in shaped_built(6):
            for history in listed_histories(forest):
                self.check(forest, *history)
                self.check(forest, *history, history[0] if history else 0)

    def test_repeated_vertices_and_roots(self):
        for forest in shaped_built(5) + shaped_built(6):
            for begun in product(range(-1, len(forest) + 1), repeat=2):
                self.check(forest, *begun)

    def test_values_of_other_kinds(self):
        for forest in ((0,), (0, 0), (1, 1), (0, 0, 0, 2), (0,) * 24, single(24)):
            for value in MANY_KINDS + (nested(60), nested(59), [1], (1,)):
                if type(value) is not int:
                    self.check_no_beginning(forest, value)
                    self.check_no_beginning(forest, *lower_vertices(forest)[:1], value)
        self.check_no_beginning((0, 0), True)
        self.check_no_beginning((1, 1), False)

    def test_forests_that_are_not_built(self):
        for forest in unbuilt_forests():
            self.check_unbuilt(forest)
            self.check_unbuilt(forest, lower_vertices(forest)[0])
            self.check_unbuilt(forest, None, [1], True)
            self.check_unbuilt(forest, *[-1] * 30)

    def test_large_forests(self):
        chance = Random(32)
        for forest in built_forests():
            for steps in range(4):
                begun = random_beginning(chance, forest, steps)
                low, high = (self.call(function, forest, *begun) for function in (first_history, last_history))
                self.assertTrue(is_true_history(forest, low) and is_true_history(forest, high))
                self.same((low[:len(begun)], high[:len(begun)]), (begun, begun))
                self.check_greedy(forest, low, len(begun), min)
                self.check_greedy(forest, high, len(begun), max)

    def check_greedy(self, forest, history, start, choice):
        """Checks that each vertex from start on is the smallest or the greatest that can follow."""
        for at in range(start, len(history)):
            choices = [v for v in lower_vertices(forest) if is_true_beginning(forest, history[:at] + (v,))]
            self.assertEqual(history[at], choice(choices))

    def test_first_and_last_are_the_ends(self):
        for forest in built_forests():
            self.same(history_index(forest, first_history(forest)), 0)
            self.same(history_index(forest, last_history(forest)), count_histories(forest) - 1)


class NextTest(CallCase):
    def test_listed_forests(self):
        for forest in listed_forests():
            rows = listed_histories(forest)
            for at, row in enumerate(rows):
                wanted = rows[at + 1] if at + 1 < len(rows) else None
                self.same(self.call(next_history, forest, row), wanted, (forest, row))

    def test_large_forests(self):
        chance = Random(34)
        for forest in built_forests():
            self.assertIsNone(self.call(next_history, forest, last_history(forest)))
            history = random_history(chance, forest)
            later = self.call(next_history, forest, history)
            if later is not None:
                self.assertTrue(is_true_history(forest, later))
                self.same(history_index(forest, later), history_index(forest, history) + 1)


class IndexTest(CallCase):
    def test_listed_forests(self):
        for forest in listed_forests():
            for at, row in enumerate(listed_histories(forest)):
                self.same(self.call(history_at, forest, at), row, (forest, at))
                self.same(self.call(history_index, forest, row), at, (forest, row))

    def test_large_forests(self):
        chance = Random(35)
        for forest in built_forests() + (binomial_tree(24), beside((0,) * 12, (0,) * 12)):
            count = count_histories(forest)
            for index in {0, count - 1, count // 2, chance.randrange(count)}:
                history = self.call(history_at, forest, index)
                self.assertTrue(is_true_history(forest, history))
                self.same(self.call(history_index, forest, history), index)
            history = random_history(chance, forest)
            self.same(history_at(forest, history_index(forest, history)), history)

    def test_the_order_of_indexes_is_that_of_tuples(self):
        chance = Random(36)
        for forest in built_forests()[::3]:
            indexes = sorted(chance.randrange(count_histories(forest)) for repeat in range(4))
            rows = [history_at(forest, index) for index in indexes]
            self.assertEqual(rows, sorted(rows))

    def test_great_indexes(self):
        star = (0,) * 24
        count = count_histories(star)
        self.same(history_at(star, count - 1), tuple(range(23, 0, -1)))
        self.same(history_at(star, count // 23), (2, 1) + tuple(range(3, 24)))
        self.same(history_index(star, tuple(range(23, 0, -1))), count - 1)

    def test_indexes_that_do_not_exist(self):
        for forest in built_forests()[::4] + ((0,), (0, 0), (0, 0, 0, 2), (0,) * 24):
            for index in strange_indexes(count_histories(forest)):
                if not (type(index) is int and 0 <= index < count_histories(forest)):
                    self.assertIs(self.refused(NoIndex, history_at, forest, index).index, index)

    def test_forests_that_are_not_built_have_no_index(self):
        for forest in unbuilt_forests()[::5] + [(0, 0, 1), up_path(24)]:
            for index in strange_indexes(0) + (1, 2):
                self.assertIs(self.refused(NoIndex, history_at, forest, index).index, index)


class NoHistoryTest(CallCase):
    def check(self, forest, value):
        for function in (next_history, history_index):
            self.assertEqual(vars(self.refused(NoHistory, function, forest, value)), {})

    def test_histories_with_a_part_changed(self):
        chance = Random(37)
        for forest in built_forests()[::4]:
            history = random_history(chance, forest)
            for value in variants(history):
                if not is_true_history(forest, value):
                    self.check(forest, value)

    def test_values_of_other_kinds(self):
        values = MANY_KINDS + (nested(60), nested(59), (True,), (False,), [1])
        for forest, value in product(((0,), (0, 0), (1, 1), (0, 0, 0, 2), (0,) * 24, single(24)), values):
            if not is_true_history(forest, value):
                self.check(forest, value)

    def test_beginnings_that_are_no_histories(self):
        for forest in shaped_built(5):
            for beginning in listed_beginnings(forest) - set(listed_histories(forest)):
                self.check(forest, beginning)

    def test_forests_that_are_not_built(self):
        for forest in unbuilt_forests()[::3]:
            self.check(forest, lower_vertices(forest))
            self.check(forest, ())


if __name__ == "__main__":
    unittest.main()
