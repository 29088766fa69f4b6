"""Tests of [120] and [121]: copies, equality and texts of joiners, and joiners that count steps."""

import unittest
from random import Random

from linkforests.errors import NoVertex, Rejected
from linkforests.forests import single
from linkforests.joiners import CountedJoiner, Joiner
from tests.support import (
    MANY_KINDS, JoinerCase, built_forests, drawn_action, nested, not_vertices, path_above, true_action,
)

CLASSES = (Joiner, CountedJoiner)


def drawn_joiner(chance, kind, n, turns):
    """Returns a joiner after drawn actions, and these actions."""
    joiner, actions = kind(n), []
    for turn in range(turns):
        action = drawn_action(chance, len(joiner.forest()))
        if type(true_action(joiner.forest(), action)[0]) is not str:
            joiner.apply([action])
            actions.append(action)
    return joiner, actions


class CopyTest(JoinerCase):
    def test_copies_are_in_the_same_state(self):
        chance = Random(120)
        for n in range(1, 25):
            for kind in CLASSES:
                joiner, actions = drawn_joiner(chance, kind, n, 12)
                joiner.set_bound(40)
                copy = self.call(joiner.copy)
                self.assertIs(type(copy), kind)
                self.check_joiner(copy, single(n), actions, 40)
                self.assertTrue(copy == joiner)
                for version in range(len(actions), 0, -1):
                    self.same(copy.undo(), version - 1)
                self.check_joiner(copy, single(n), [], 40)
                self.check_joiner(joiner, single(n), actions, 40)

    def test_copies_are_independent(self):
        for kind in CLASSES:
            joiner = kind.of((0, 0, 2))
            joiner.grow()
            copy = joiner.copy()
            joiner.join(0, 2)
            copy.join(2, 3)
            copy.set_bound(2)
            copy.find(1)
            self.check_joiner(joiner, (0, 0, 2), [("grow",), ("join", 0, 2)], 60)
            self.check_joiner(copy, (0, 0, 2), [("grow",), ("join", 2, 3)], 2)
            joiner.undo()
            joiner.undo()
            self.check_joiner(copy, (0, 0, 2), [("grow",), ("join", 2, 3)], 2)

    def test_a_copy_of_a_copy(self):
        joiner, actions = drawn_joiner(Random(121), CountedJoiner, 9, 9)
        copy = joiner.copy().copy()
        self.assertIs(type(copy), CountedJoiner)
        self.check_joiner(copy, single(9), actions, 60)

    def test_subclasses(self):
        class Named(Joiner):
            pass
        self.assertIs(type(Named(2).copy()), Named)
        self.assertIs(type(Named.of((0, 0))), Named)


class EqualTest(JoinerCase):
    def test_joiners_with_equal_forests(self):
        chance = Random(122)
        joiners = [drawn_joiner(chance, kind, n, 3)[0] for n in (1, 2, 3, 4) for kind in CLASSES for turn in range(3)]
        joiners += [kind.of(forest) for forest in built_forests()[:30] for kind in CLASSES]
        for one in joiners:
            for other in joiners:
                self.assertIs(one == other, one.forest() == other.forest())
                self.assertIs(one != other, one.forest() != other.forest())

    def test_whatever_else_they_have(self):
        one, other = Joiner(2), CountedJoiner.of((0, 0))
        one.join(0, 1)
        other.set_bound(3)
        other.find(1)
        self.assertIs(one == other, True)
        self.assertIs(other == one, True)
        one.undo()
        self.assertIs(one == other, False)

    def test_other_values(self):
        for joiner in (Joiner(3), CountedJoiner(3), Joiner(1)):
            for value in MANY_KINDS + (nested(60), joiner.forest(), str(joiner), object(), Joiner, single(3)):
                self.assertIs(joiner == value, False)
                self.assertIs(value == joiner, False)
                self.assertIs(joiner != value, True)

    def test_text(self):
        self.same(str(Joiner(1)), "1 vertices, 1 trees, 0 actions")
        self.same(str(CountedJoiner(1)), "1 vertices, 1 trees, 0 actions, 0 steps")
        joiner = Joiner(24)
        joiner.join(0, 1)
        self.same(str(joiner), "24 vertices, 23 trees, 1 actions")


class StepsTest(JoinerCase):
    def test_finds_and_walks(self):
        chance = Random(123)
        for forest in built_forests():
            joiner, steps = CountedJoiner.of(forest), 0
            self.same(joiner.steps, 0)
            for repeat in range(12):
                vertex = chance.randrange(len(forest))
                edges = len(path_above(forest, vertex))
                turn = chance.randrange(5)
                if turn == 0:
                    joiner.find(vertex)
                elif turn == 1:
                    self.same(list(joiner.walk(vertex)), [vertex, *path_above(forest, vertex)])
                elif turn == 2:
                    self.same(next(joiner.walk(vertex)), vertex)
                else:
                    edges = 0
                    self.no_steps(joiner, vertex)
                steps += edges
                self.same(joiner.steps, steps)
            self.assertTrue(str(joiner).endswith(f" actions, {steps} steps"))
            self.same(joiner.copy().steps, 0)

    def no_steps(self, joiner, vertex):
        """Does what counts no steps."""
        joiner.walk(vertex)
        joiner.weight(vertex)
        for value in not_vertices(len(joiner.forest()))[:6]:
            self.refused(NoVertex, joiner.find, value)
            self.refused(NoVertex, joiner.walk, value)
        str(joiner), len(joiner), joiner.trees, joiner.forest(), joiner.joins(), joiner.actions(), joiner.copy()

    def test_a_walk_counts_when_its_first_value_is_asked_for(self):
        joiner = CountedJoiner.of((0, 0, 0, 2))
        walk = joiner.walk(3)
        self.same(joiner.steps, 0)
        self.same((next(walk), joiner.steps), (3, 2))
        self.same((list(walk), joiner.steps), ([2, 0], 2))
        self.same((list(walk), joiner.steps), ([], 2))

    def test_the_path_at_that_time(self):
        joiner = CountedJoiner(4)
        joiner.join(2, 3)
        walk = joiner.walk(3)
        joiner.join(0, 1)
        joiner.join(0, 2)
        self.same((list(walk), joiner.steps), ([3, 2, 0], 2))
        joiner.undo()
        self.same((joiner.find(3), joiner.steps), (2, 3))

    def test_actions_and_undo_count_nothing(self):
        joiner = CountedJoiner(6)
        joiner.join_all(0, 1, 2)
        joiner.join(3, 4)
        joiner.join(4, 1)
        joiner.grow()
        joiner.apply([("join", 6, 1), ("join", 2, 5)])
        joiner.undo()
        self.refused(Rejected, joiner.apply, [("join", 0, 1)])
        self.same(joiner.steps, 0)

    def test_batches_that_are_reverted(self):
        joiner = CountedJoiner(4)

        def on_step(given):
            given.find(1)

        self.refused(Rejected, joiner.apply, [("join", 0, 1), ("join", 2, 3), ("join", 0, 1)], on_step=on_step)
        # The actions are reverted, but the two calls of find have been made.
        self.same((joiner.steps, joiner.forest()), (2, (0, 1, 2, 3)))
        self.same(str(joiner), "4 vertices, 4 trees, 0 actions, 2 steps")

    def test_the_queries_of_a_joiner_stay(self):
        joiner = CountedJoiner(5, bound=9)
        self.check_joiner(joiner, single(5), [], 9)
        self.same(joiner.steps, 0)
        joiner.join(0, 1)
        self.check_joiner(joiner, single(5), [("join", 0, 1)], 9)
        self.same(joiner.steps, 2)


if __name__ == "__main__":
    unittest.main()
