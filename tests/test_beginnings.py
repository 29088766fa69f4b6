"""Tests of [43] to [46], [54] and [55]: beginnings, what can follow them, and how they are walked and merged."""

import inspect
import unittest
from itertools import islice, product
from random import Random

from linkforests.builds import beside
from linkforests.errors import NoBeginning, NotBuilt
from linkforests.forests import single
from linkforests.histories import count_histories
from linkforests.orders import count_rest, is_beginning, merged_beginning, next_vertices, walk_beginnings
from tests.support import (
    MANY_KINDS, CallCase, after_each, all_forests, binomial_tree, built_forests, is_true_beginning, is_true_history,
    listed_beginnings, listed_histories, lower_vertices, nested, not_vertices, random_beginning, random_history,
    shaped_built, true_heavy, unbuilt_forests, up_path, variants,
)

STRANGE = MANY_KINDS + (nested(60), nested(59), [1], [], (True,), (False,), ((1,),), (None, 1), tuple(range(4000)))


def listed_forests():
    """Returns the built forests of up to four vertices, and one of each shape of five to seven."""
    small = [forest for n in range(1, 5) for forest in all_forests(n) if listed_histories(forest)]
    return small + [forest for n in range(5, 8) for forest in shaped_built(n)]


def drawn_beginnings():
    """Returns pairs of a built forest of up to 24 vertices and a beginning of it, none to all vertices long."""
    chance = Random(43)
    rows = []
    for forest in built_forests():
        sizes = {0, len(lower_vertices(forest)), chance.randrange(len(forest)), chance.randrange(len(forest))}
        rows += [(forest, random_beginning(chance, forest, size)) for size in sorted(sizes)]
    return rows


class BeginningCase(CallCase):
    def check_no_beginning(self, function, forest, *given, **named):
        self.assertEqual(vars(self.refused(NoBeginning, function, forest, *given, **named)), {})

    def check_not_built(self, function, forest, *given, **named):
        error = self.refused(NotBuilt, function, forest, *given, **named)
        self.assertIs(type(error.vertex), int)
        self.assertIn(error.vertex, true_heavy(forest))


class BeginningTest(BeginningCase):
    def check(self, forest, value):
        """Checks the three functions for a value, beginning or not, in a built forest."""
        right = is_true_beginning(forest, value)
        self.assertIs(self.call(is_beginning, forest, value), right, (forest, value))
        if right:
            following = tuple(row[-1] for row in after_each(forest, value))
            self.same(self.call(next_vertices, forest, value), following, (forest, value))
            self.assertEqual(following == (), len(value) == len(lower_vertices(forest)))
        else:
            self.check_no_beginning(next_vertices, forest, value)
            self.check_no_beginning(count_rest, forest, value)
        return right

    def test_all_rows_of_vertices(self):
        for forest in listed_forests():
            if len(forest) < 6:
                for size in range(min(len(forest), 4) + 1):
                    for row in product(range(len(forest)), repeat=size):
                        self.assertIs(self.check(forest, row), row in listed_beginnings(forest))

    def test_all_beginnings(self):
        for forest in listed_forests():
            for beginning in listed_beginnings(forest):
                rows = [row for row in listed_histories(forest) if row[:len(beginning)] == beginning]
                following = {row[len(beginning)] for row in rows if row != beginning}
                self.assertIs(is_beginning(forest, beginning), True)
                self.same(self.call(next_vertices, forest, beginning), tuple(sorted(following)))
                self.same(self.call(count_rest, forest, beginning), len(rows), (forest, beginning))

    def test_large_forests(self):
        for forest, beginning in drawn_beginnings():
            self.assertTrue(self.check(forest, beginning))

    def test_beginnings_with_a_part_changed(self):
        found = {True: 0, False: 0}
        for forest, beginning in drawn_beginnings()[::5]:
            for value in variants(beginning):
                found[self.check(forest, value)] += 1
        self.assertGreater(min(found.values()), 500)

    def test_vertices_that_come_too_early(self):
        for forest, beginning in drawn_beginnings()[::3]:
            for vertex in range(len(forest)):
                self.check(forest, beginning + (vertex,))
                self.check(forest, (vertex,) + beginning)

    def test_counts_are_sums(self):
        for forest, beginning in drawn_beginnings():
            longer = [beginning + (vertex,) for vertex in next_vertices(forest, beginning)]
            total = sum(count_rest(forest, row) for row in longer) if longer else 1
            self.same(self.call(count_rest, forest, beginning), total, (forest, beginning))

    def test_all_begin_with_nothing(self):
        for forest in built_forests():
            self.same(self.call(count_rest, forest, ()), count_histories(forest))

    def test_values_of_other_kinds(self):
        for forest in ((0,), (0, 0), (1, 1), (0, 0, 1, 0), (0,) * 24, single(24)):
            for value in STRANGE:
                self.check(forest, value)

    def test_bools_are_no_vertices(self):
        self.assertFalse(self.check((0, 0), (True,)))
        self.assertFalse(self.check((1, 1), (False,)))
        self.assertFalse(self.check((0, 0, 0), (2, True)))

    def test_forests_that_are_not_built(self):
        for forest in unbuilt_forests()[::2] + [(0, 0, 1)]:
            for function in (is_beginning, next_vertices, count_rest):
                for value in ((), lower_vertices(forest)[-1:], None, [1], (True,), (0,) * 30, nested(60)):
                    self.check_not_built(function, forest, value)


class WalkTest(BeginningCase):
    def test_listed_forests(self):
        for forest in listed_forests():
            beginnings = listed_beginnings(forest)
            many = len(lower_vertices(forest))
            for first in sorted(beginnings, key=len)[:12]:
                for steps in range(many + 3):
                    wanted = sorted(row for row in beginnings if len(row) == steps and row[:len(first)] == first)
                    self.same(self.call(walk_beginnings, forest, *first, steps=steps), wanted, (forest, first, steps))
                whole = [row for row in listed_histories(forest) if row[:len(first)] == first]
                self.same(self.call(walk_beginnings, forest, *first), whole)
                self.same(self.call(walk_beginnings, forest, *first, steps=None), whole)

    def test_no_first_vertices(self):
        for forest in shaped_built(6):
            self.same(self.call(walk_beginnings, forest), list(listed_histories(forest)))
            self.same(self.call(walk_beginnings, forest, steps=0), [()])
        self.same(self.call(walk_beginnings, (0,)), [()])
        self.same(self.call(walk_beginnings, (0,), steps=0), [()])
        self.same(self.call(walk_beginnings, (0,), steps=1), [])

    def test_steps_that_are_too_few_or_too_many(self):
        for forest, first in drawn_beginnings()[::2]:
            self.same(self.call(walk_beginnings, forest, *first, steps=len(first)), [first])
            for steps in [*range(len(first)), len(lower_vertices(forest)) + 1, 24, 10 ** 39]:
                self.same(self.call(walk_beginnings, forest, *first, steps=steps), [], (forest, first, steps))

    def test_one_step_more(self):
        for forest, first in drawn_beginnings()[::2]:
            found = self.call(walk_beginnings, forest, *first, steps=len(first) + 1)
            self.same(found, after_each(forest, first))

    def test_the_first_of_very_many(self):
        for forest in ((0,) * 24, binomial_tree(24), beside((0,) * 12, (0,) * 12)):
            first = random_beginning(Random(54), forest, 3)
            for begun, steps in (((), None), ((), 20), (first, None), (first, 12)):
                rows = list(islice(walk_beginnings(forest, *begun, steps=steps), 200))
                self.assertEqual((len(rows), rows), (200, sorted(set(rows))))
                size = len(lower_vertices(forest)) if steps is None else steps
                self.assertEqual({(len(row), row[:len(begun)]) for row in rows}, {(size, begun)})
                self.assertTrue(all(is_true_beginning(forest, row) for row in rows))

    def test_errors_come_with_the_first_result(self):
        rows = (((0, 0, 1), (), NotBuilt), ((0, 0, 1), (None,), NotBuilt), ((0, 0), (0,), NoBeginning))
        for forest, first, error in rows:
            for steps in (None, 0, 1, 50):
                walk = walk_beginnings(forest, *first, steps=steps)
                self.assertTrue(inspect.isgenerator(walk))
                with self.assertRaises(error):
                    next(walk)

    def test_values_that_are_no_beginnings(self):
        for forest in ((0,), (0, 0), (1, 1), (0, 0, 1, 0), (0,) * 24):
            for value in not_vertices(len(forest)) + ((1,), [1]):
                for steps in (None, 0, 1, 5):
                    self.check_no_beginning(walk_beginnings, forest, value, steps=steps)
                    self.check_no_beginning(walk_beginnings, forest, *lower_vertices(forest)[-1:], value, steps=steps)

    def test_beginnings_with_a_part_changed(self):
        for forest, first in drawn_beginnings()[::15]:
            for value in variants(first):
                if type(value) is tuple and not is_true_beginning(forest, value):
                    self.check_no_beginning(walk_beginnings, forest, *value, steps=0)

    def test_forests_that_are_not_built(self):
        for forest in unbuilt_forests()[::4]:
            for first in ((), lower_vertices(forest)[-1:], (None, [1]), (True,) * 30):
                self.check_not_built(walk_beginnings, forest, *first)
                self.check_not_built(walk_beginnings, forest, *first, steps=0)


class MergeTest(BeginningCase):
    def check(self, forest, *beginnings):
        """Checks what beginnings are merged to."""
        wanted = tuple(dict.fromkeys(vertex for beginning in beginnings for vertex in beginning))
        found = self.call(merged_beginning, forest, *beginnings)
        self.same(found, wanted, (forest, beginnings))
        self.assertTrue(is_true_beginning(forest, found), (forest, beginnings))
        self.same(self.call(merged_beginning, forest, *beginnings, complete=False), found)
        whole = self.call(merged_beginning, forest, *beginnings, complete=True)
        self.assertTrue(is_true_history(forest, whole))
        self.same(whole[:len(found)], found)

    def test_none(self):
        for forest in built_forests():
            self.check(forest)
        self.same(merged_beginning((0,), complete=True), ())

    def test_pairs_in_small_forests(self):
        for forest in listed_forests():
            rows = sorted(listed_beginnings(forest))
            for one, other in product(rows[:40], rows[-40:]):
                self.check(forest, one, other)

    def test_any_number_in_large_forests(self):
        chance = Random(55)
        for forest in built_forests():
            for many in (1, 2, 3, 9):
                sizes = [chance.randrange(len(forest)) for row in range(many)]
                self.check(forest, *[random_beginning(chance, forest, size) for size in sizes])
            self.check(forest, random_history(chance, forest), random_history(chance, forest))
            self.check(forest, *[()] * 5)

    def test_one_that_is_no_beginning(self):
        for forest, beginning in drawn_beginnings()[::9]:
            for value in variants(beginning):
                if not is_true_beginning(forest, value):
                    for row in ((value,), (beginning, value), (value, beginning), ((), beginning, (), value, ())):
                        self.check_no_beginning(merged_beginning, forest, *row)
                    self.check_no_beginning(merged_beginning, forest, beginning, value, complete=True)

    def test_values_of_other_kinds(self):
        for forest in ((0,), (0, 0), (1, 1), (0, 0, 1, 0), (0,) * 24):
            for value in STRANGE:
                if not is_true_beginning(forest, value):
                    self.check_no_beginning(merged_beginning, forest, value)
                    self.check_no_beginning(merged_beginning, forest, (), value, complete=True)

    def test_a_beginning_only_together_with_another_one(self):
        # The vertex 1 needs 2 and 3, and each value must be a beginning of its own.
        self.check_no_beginning(merged_beginning, (0, 0, 1, 0), (2, 3), (1,))
        self.check((0, 0, 1, 0), (2, 3), (3, 2, 1))

    def test_forests_that_are_not_built(self):
        for forest in unbuilt_forests()[::3] + [up_path(24)]:
            for row in ((), ((),), (None,), ((), [1]), (lower_vertices(forest),)):
                self.check_not_built(merged_beginning, forest, *row)
                self.check_not_built(merged_beginning, forest, *row, complete=True)


if __name__ == "__main__":
    unittest.main()
