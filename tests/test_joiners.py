"""Tests of [111] to [118]: joiners, their actions, undo and queries."""

import inspect
import unittest
from random import Random

from linkforests.builds import is_built, run_joins
from linkforests.errors import BadCount, NotBuilt, NothingToUndo, NoVersion, NoVertex, TooManyActions
from linkforests.forests import single
from linkforests.joiners import CountedJoiner, Joiner
from tests.support import (
    MANY_KINDS, JoinerCase, built_forests, drawn_action, nested, not_vertices, replayed, true_action, true_heavy,
    unbuilt_forests,
)

CLASSES = (Joiner, CountedJoiner)
NO_COUNTS = (0, -1, 25, 26, 10 ** 39, True, False, None, "", "1", (), (1,), [], [1], {}, nested(60))


class MakingTest(JoinerCase):
    def test_all_numbers_of_vertices(self):
        for kind in CLASSES:
            for n in range(1, 25):
                self.check_joiner(self.call(kind, n), single(n), [], 60)
                self.check_joiner(self.call(kind, n, bound=n - 1), single(n), [], n - 1)

    def test_values_that_are_no_counts(self):
        for kind in CLASSES:
            for value in NO_COUNTS:
                self.assertEqual(vars(self.refused(BadCount, kind, value)), {})

    def test_limit(self):
        self.same((Joiner.LIMIT, CountedJoiner.LIMIT, Joiner(1).LIMIT), (60, 60, 60))

    def test_of_built_forests(self):
        for forest in built_forests():
            for kind in CLASSES:
                joiner = self.call(kind.of, forest)
                self.assertIs(type(joiner), kind)
                self.check_joiner(joiner, forest, [], 60)
                self.refused(NothingToUndo, joiner.undo)

    def test_of_forests_that_are_not_built(self):
        for forest in unbuilt_forests():
            error = self.refused(NotBuilt, Joiner.of, forest)
            self.assertIs(type(error.vertex), int)
            self.assertIn(error.vertex, true_heavy(forest))

    def test_properties_can_only_be_read(self):
        joiner = CountedJoiner(3)
        for name in ("bound", "trees", "steps"):
            with self.assertRaises(AttributeError):
                setattr(joiner, name, 1)
        self.check_joiner(joiner, single(3), [], 60)


class TurnsTest(JoinerCase):
    """Plays turns on a joiner and keeps the actions that must be in effect."""

    def play(self, seed, kind, first, bound, turns):
        self.chance, self.first, self.actions, self.bound = Random(seed), first, [], bound
        self.joiner = kind(len(first), bound=bound) if first == single(len(first)) else kind.of(first)
        if self.joiner.bound != bound:
            self.same(self.joiner.set_bound(bound), bound)
        choices = (self.turn_action, self.turn_action, self.turn_all, self.turn_undo, self.turn_bound, self.turn_wrong)
        kept = []
        for turn in range(turns):
            self.chance.choice(choices)()
            self.check_joiner(self.joiner, first, self.actions, self.bound)
            self.assertIs(is_built(self.joiner.forest()), True)
            results = (self.joiner.forest(), self.joiner.joins(), self.joiner.actions())
            kept.append((results, repr(results)))
            self.assertTrue(all(repr(found) == shown for found, shown in kept))

    def present(self):
        return replayed(self.first, self.actions)[0][-1]

    def call_action(self, action):
        """Does an action, and checks its result or its error."""
        function = self.joiner.grow if action == ("grow",) else self.joiner.join
        found = true_action(self.present(), action)
        if len(self.actions) >= self.bound:
            self.check_error(("TooManyActions",), function, *action[1:])
        elif type(found[0]) is str:
            self.check_error(found, function, *action[1:])
        else:
            self.actions.append(action)
            self.same(self.call(function, *action[1:]), len(self.actions))

    def turn_action(self):
        self.call_action(drawn_action(self.chance, len(self.present())))

    def turn_all(self):
        n = len(self.present())
        vertices = [self.chance.randrange(n + self.chance.randrange(2)) for repeat in range(self.chance.randrange(5))]
        actions, wanted = list(self.actions), None
        for other in vertices[1:]:
            action = ("join", vertices[0], other)
            found = true_action(replayed(self.first, actions)[0][-1], action)
            if len(actions) >= self.bound:
                wanted = wanted or ("TooManyActions",)
            elif type(found[0]) is str:
                wanted = wanted or found
            if wanted is None:
                actions.append(action)
        if wanted is None:
            self.actions = actions
            self.same(self.call(self.joiner.join_all, *vertices), len(actions))
        else:
            self.check_error(wanted, self.joiner.join_all, *vertices)

    def turn_undo(self):
        if self.actions:
            self.actions.pop()
            self.same(self.call(self.joiner.undo), len(self.actions))
        else:
            self.check_error(("NothingToUndo",), self.joiner.undo)

    def turn_bound(self):
        value = self.chance.choice((self.chance.randrange(61), len(self.actions), len(self.actions) + 5, 60))
        if len(self.actions) <= value <= 60:
            self.same(self.call(self.joiner.set_bound, value), value)
            self.bound = value
        else:
            self.check_error(("BadCount",), self.joiner.set_bound, value)

    def turn_wrong(self):
        n = len(self.present())
        value = self.chance.choice(not_vertices(n))
        self.call_action(("join", value, self.chance.choice((0, value, None, n))))
        self.call_action(("join", self.chance.randrange(n), value))
        for function in (self.joiner.find, self.joiner.weight, self.joiner.walk):
            self.assertIs(self.refused(NoVertex, function, value).value, value)
        version = self.chance.choice((True, False, -1, len(self.actions) + 1, "0", (), [0], 10 ** 39, {}))
        self.assertIs(self.refused(NoVersion, self.joiner.forest, version=version).version, version)
        bound = self.chance.choice((True, False, None, "9", -1, 61, len(self.actions) - 1, [60], 10 ** 39))
        self.check_error(("BadCount",), self.joiner.set_bound, bound)

    def test_joiners_of_single_vertices(self):
        for n in range(1, 25):
            self.play(n, Joiner, single(n), 60, 30)
            self.play(100 + n, CountedJoiner, single(n), 60, 30)

    def test_small_bounds(self):
        for n in range(1, 25):
            self.play(200 + n, CLASSES[n % 2], single(n), n % 6, 30)

    def test_joiners_of_built_forests(self):
        for seed, forest in enumerate(built_forests()[::4]):
            self.play(300 + seed, CLASSES[seed % 2], forest, 60, 20)


class ActionsTest(JoinerCase):
    def test_equal_weights(self):
        for one in range(4):
            for other in range(4):
                joiner = Joiner.of((0, 0, 2, 2))
                if one // 2 == other // 2:
                    self.check_error(("SameTree",), joiner.join, one, other)
                else:
                    self.same(joiner.join(one, other), 1)
                    self.same(joiner.joins(), ((2, 0),) if one < 2 else ((0, 2),))
                    self.same(joiner.actions(), (("join", one, other),))

    def test_the_lighter_tree_goes_below(self):
        for one, other in ((0, 3), (3, 0), (2, 3), (3, 1)):
            joiner = Joiner.of((0, 0, 0, 3))
            self.same(joiner.join(one, other), 1)
            self.same(joiner.forest(), (0, 0, 0, 0))

    def test_the_first_value_that_is_no_vertex(self):
        for bad in not_vertices(3):
            joiner = Joiner(3)
            for given in ((bad, 0), (0, bad), (bad, bad), (bad, 7)):
                self.check_error(("NoVertex", bad), joiner.join, *given)
            self.check_error(("NoVertex", 7), joiner.join, 7, bad)
            self.check_joiner(joiner, single(3), [], 60)

    def test_grow_to_24_vertices(self):
        joiner = Joiner(20)
        self.same([joiner.grow() for repeat in range(4)], [1, 2, 3, 4])
        self.check_error(("TooMany", 24), joiner.grow)
        self.check_joiner(joiner, single(20), [("grow",)] * 4, 60)
        self.same(joiner.join(23, 0), 5)

    def test_too_many_actions_come_first(self):
        joiner = Joiner(24, bound=1)
        self.same(joiner.join(0, 1), 1)
        for given in ((0, 2), (0, 1), (24, 0), (0, None), (True, False)):
            self.check_error(("TooManyActions",), joiner.join, *given)
        self.check_error(("TooManyActions",), joiner.grow)
        self.check_error(("TooManyActions",), joiner.join_all, None, 24)
        self.check_joiner(joiner, single(24), [("join", 0, 1)], 1)
        joiner = Joiner(1, bound=0)
        self.refused(TooManyActions, joiner.grow)
        self.same(joiner.set_bound(1), 1)
        self.same(joiner.grow(), 1)

    def test_sixty_actions(self):
        joiner = Joiner(1)
        actions = [("grow",)] * 23 + [("join", 0, vertex) for vertex in range(1, 24)]
        for action in actions:
            joiner.grow() if action == ("grow",) else joiner.join(0, action[2])
        self.check_joiner(joiner, (0,), actions, 60)
        for version in range(len(actions), 0, -1):
            self.same(joiner.undo(), version - 1)
        self.check_joiner(joiner, (0,), [], 60)
        self.check_error(("NothingToUndo",), joiner.undo)

    def test_join_all_of_none_or_one(self):
        for value in MANY_KINDS + (nested(60), 5):
            joiner = Joiner(3, bound=1)
            self.same((joiner.join_all(), self.call(joiner.join_all, value)), (0, 0))
            joiner.join(0, 1)
            self.same((joiner.join_all(), self.call(joiner.join_all, value)), (1, 1))
            self.check_joiner(joiner, single(3), [("join", 0, 1)], 1)

    def test_join_all_after_an_error(self):
        joiner = Joiner(5, bound=3)
        self.same(joiner.join(3, 4), 1)
        before = [("join", 3, 4)]
        rows = (((0, 1, 1), ("SameTree",)), ((0, 1, 5), ("NoVertex", 5)), ((0, 1, None), ("NoVertex", None)),
                ((True, 1), ("NoVertex", True)), ((0, 1, 2, 3), ("TooManyActions",)), ((0, 0), ("SameTree",)),
                ((5, None), ("NoVertex", 5)), ((0, 1, 2, None), ("TooManyActions",)))
        for given, wanted in rows:
            self.check_error(wanted, joiner.join_all, *given)
            self.check_joiner(joiner, single(5), before, 3)
        self.same(joiner.join_all(0, 1, 4), 3)
        self.check_joiner(joiner, single(5), before + [("join", 0, 1), ("join", 0, 4)], 3)
        self.same(joiner.undo(), 2)

    def test_the_list_of_vertices_is_read_once(self):
        vertices = [0, 1, 2]
        joiner = Joiner(3)
        joiner.join_all(*vertices)
        vertices.clear()
        self.same(joiner.actions(), (("join", 0, 1), ("join", 0, 2)))


class BoundTest(JoinerCase):
    def test_bounds(self):
        joiner = Joiner(9, bound=5)
        joiner.join_all(0, 1, 2)
        for value in range(-2, 64):
            if 2 <= value <= 60:
                self.same((joiner.set_bound(value), joiner.bound), (value, value))
            else:
                before = joiner.bound
                self.check_error(("BadCount",), joiner.set_bound, value)
                self.same(joiner.bound, before)
        for value in MANY_KINDS + (nested(60), "2"):
            if type(value) is not int or not 2 <= value <= 60:
                self.check_error(("BadCount",), joiner.set_bound, value)
        self.same((joiner.bound, len(joiner)), (60, 2))

    def test_a_bound_is_no_action(self):
        joiner = Joiner(3)
        self.same((joiner.set_bound(1), len(joiner), joiner.actions()), (1, 0, ()))
        joiner.join(0, 1)
        joiner.undo()
        self.same(joiner.bound, 1)


class QueriesTest(JoinerCase):
    def test_versions(self):
        joiner = Joiner(3)
        joiner.join(0, 1)
        joiner.grow()
        joiner.join(3, 2)
        joiner.undo()
        self.same([joiner.forest(version=v) for v in (None, 0, 1, 2)], [(0, 0, 2, 3), (0, 1, 2), (0, 0, 2), (0, 0, 2, 3)])
        for value in (True, False, -1, 3, 4, "0", "", (), [], {}, 10 ** 39, nested(60)):
            self.assertIs(self.refused(NoVersion, joiner.forest, version=value).version, value)

    def test_a_walk_is_a_generator(self):
        joiner = Joiner.of((0, 0, 0, 2))
        walk = joiner.walk(3)
        self.assertTrue(inspect.isgenerator(walk))
        self.same([next(walk), next(walk), next(walk)], [3, 2, 0])
        self.same(list(walk), [])

    def test_a_wrong_walk_raises_when_it_is_asked(self):
        for kind in CLASSES:
            for value in not_vertices(3):
                walk = kind(3).walk(value)
                with self.assertRaises(NoVertex) as caught:
                    next(walk)
                self.assertIs(caught.exception.value, value)

    def test_the_joins_lead_to_the_forest(self):
        chance = Random(118)
        for n in range(1, 20):
            joiner = Joiner(n)
            for repeat in range(n):
                action = drawn_action(chance, len(joiner.forest()))
                if type(true_action(joiner.forest(), action)[0]) is not str:
                    joiner.apply([action])
            self.same(run_joins(len(joiner.forest()), joiner.joins()), joiner.forest())


if __name__ == "__main__":
    unittest.main()
