"""Tests of [73] to [76]: ways that lead from one forest to another, join by join."""

import unittest
from random import Random

from linkforests.errors import NoStart, NoVertex
from linkforests.forests import single
from linkforests.growth import Way, left_vertices, next_joins
from tests.support import (
    CallCase, any_pairs, built_forests, growing_pairs, not_vertices, random_forest, true_left, true_obstacles,
    unbuilt_forests, with_item, with_other_parent,
)


class WayCase(CallCase):
    def check_way(self, way, one, other):
        """Checks that a way is at one forest on the way to another one."""
        self.same(way.at, one)
        self.same(way.left, true_left(one, other))
        self.same(way.left, left_vertices(one, other))
        self.same(way.choices, next_joins(one, other))
        self.same(len(way), len(true_left(one, other)))

    def check_no_start(self, one, other, function, *given):
        error = self.refused(NoStart, function, *given)
        self.assertIn(error.reason, true_obstacles(one, other))
        self.same(error.reason, tuple(error.reason))


class MakingTest(WayCase):
    def test_ways(self):
        for one, other in growing_pairs():
            self.check_way(self.call(Way, one, other), one, other)

    def test_ways_from_single_vertices(self):
        for forest in built_forests():
            way = self.call(Way.of, forest)
            self.assertIs(type(way), Way)
            self.check_way(way, single(len(forest)), forest)

    def test_pairs_that_do_not_grow(self):
        for one, other in any_pairs():
            if true_obstacles(one, other):
                self.check_no_start(one, other, Way, one, other)
        for forest in unbuilt_forests():
            self.check_no_start(single(len(forest)), forest, Way.of, forest)

    def test_kinds(self):
        self.same(Way.KINDS, ("apart", "closed", "heavy"))
        self.same(Way((0,), (0,)).KINDS, ("apart", "closed", "heavy"))
        found = {word for one, other in any_pairs() for word, vertex in true_obstacles(one, other)}
        self.assertEqual(found, set(Way.KINDS))

    def test_of_belongs_to_the_class(self):
        class Longer(Way):
            pass
        self.assertIs(type(Longer.of((0, 0))), Longer)

    def test_what_is_asked_cannot_be_assigned(self):
        way = Way.of((0, 0))
        for name in ("at", "left", "choices"):
            with self.assertRaises(AttributeError):
                setattr(way, name, ())
        self.check_way(way, (0, 1), (0, 0))


class StepsTest(WayCase):
    def test_joins_and_moves(self):
        chance = Random(75)
        for one, other in growing_pairs():
            way, state, seen = Way(one, other), one, [one]
            for step in range(12):
                turn = chance.randrange(4)
                if turn == 0:
                    self.check_wrong_joins(way, state, other)
                elif turn == 1:
                    self.check_wrong_moves(chance, way, state, other)
                elif turn == 2:
                    state = chance.choice(seen + [other])
                    self.same(self.call(way.go_to, state), len(true_left(state, other)))
                elif state != other:
                    vertex = chance.choice(way.choices)
                    state = with_item(state, vertex, other[vertex])
                    self.same(self.call(way.join, vertex), len(true_left(state, other)))
                    seen.append(state)
                self.check_way(way, state, other)

    def check_wrong_joins(self, way, state, other):
        choices = way.choices
        for value in [vertex for vertex in range(len(other)) if vertex not in choices] + list(not_vertices(len(other))):
            self.assertIs(self.refused(NoVertex, way.join, value).value, value)
            self.same((way.at, way.choices), (state, choices))
        self.check_way(way, state, other)

    def check_wrong_moves(self, chance, way, state, other):
        for forest in (with_other_parent(chance, state), random_forest(chance, len(other))):
            if true_obstacles(forest, other):
                self.check_no_start(forest, other, way.go_to, forest)
                self.check_way(way, state, other)

    def test_a_whole_way(self):
        chance = Random(76)
        for one, other in growing_pairs():
            way = Way(one, other)
            for left in range(len(way) - 1, -1, -1):
                self.same(way.join(chance.choice(way.choices)), left)
            self.check_way(way, other, other)
            self.check_wrong_joins(way, other, other)
            self.same(way.go_to(one), len(true_left(one, other)))
            self.check_way(way, one, other)

    def test_moves_to_forests_that_the_way_has_not_met(self):
        # A way may go to any forest from which its last one grows, also to one before its first one.
        way = Way((0, 0, 2, 3), (0, 0, 0, 2))
        self.same(way.go_to((0, 1, 2, 2)), 2)
        self.check_way(way, (0, 1, 2, 2), (0, 0, 0, 2))
        self.same(way.go_to(single(4)), 3)
        self.check_way(way, single(4), (0, 0, 0, 2))

    def test_bools_are_no_vertices(self):
        way = Way.of((0, 0))
        self.assertIs(self.refused(NoVertex, way.join, True).value, True)
        self.check_way(way, (0, 1), (0, 0))
        way = Way.of((1, 1))
        self.assertIs(self.refused(NoVertex, way.join, False).value, False)
        self.same(way.join(0), 0)

    def test_two_ways_do_not_change_each_other(self):
        for one, other in growing_pairs():
            if one != other:
                first, second = Way(one, other), Way(one, other)
                first.join(first.choices[0])
                self.check_way(second, one, other)
                second.go_to(other)
                self.check_way(second, other, other)
                self.assertEqual(len(first), len(true_left(one, other)) - 1)

    def test_what_was_returned_does_not_change(self):
        way = Way.of((0, 0, 0, 2))
        kept = (way.at, way.left, way.choices)
        way.join(3)
        self.same(kept, ((0, 1, 2, 3), (1, 2, 3), (1, 3)))


if __name__ == "__main__":
    unittest.main()
