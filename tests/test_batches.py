"""Tests of [119]: batches of actions, and what is called after each of them."""

import unittest
from random import Random

from linkforests.errors import BadBatch, Busy, NoHistory, NoVertex, Rejected
from linkforests.forests import single
from linkforests.joiners import CountedJoiner, Joiner
from tests.support import MANY_KINDS, JoinerCase, drawn_action, nested, not_vertices, replayed, true_action

NO_BATCHES = (
    None, True, 0, "", "grow", {}, {"grow": ()}, nested(60), [("grow",)] * 21, (("grow",),) * 21, (0,) * 4000,
    ("join", 0, 1), ["join", 0, 1], ("grow",), [()], [("grow", 0)], [("grow", 0, 1)], [("join",)], [("join", 0)],
    [("join", 0, 1, 2)], [["join", 0, 1]], [["grow"]], ["grow"], [("Join", 0, 1)], [(None, 0, 1)], [("undo",)],
    [("join", 0, 1), None], (("grow",), [("grow",)]), [{"join": [0, 1]}], [(("grow",),)], [("", 0, 1)], [(True,)],
    [("join_all", 0, 1)], [("grow\n",)], [(["grow"],)], [([], 0, 1)],
)


def good_actions(chance, forest, size):
    """Returns so many actions that can be done one after another, from this forest on."""
    actions = []
    while len(actions) < size:
        state = replayed(forest, actions)[0][-1]
        action = drawn_action(chance, len(state))
        if type(true_action(state, action)[0]) is not str:
            actions.append(action)
        elif len(state) == 24 and len(set(state)) == 1:
            break
    return actions


def started(chance, n, bound=60):
    """Returns a joiner on which some actions were done, and these actions."""
    joiner = CountedJoiner(n, bound=bound) if n % 2 else Joiner(n, bound=bound)
    actions = good_actions(chance, single(n), min(n - 1, 3))
    for action in actions:
        joiner.grow() if action == ("grow",) else joiner.join(*action[1:])
    return joiner, actions


class Stop(Exception):
    """An exception that the package does not know."""


class BatchTest(JoinerCase):
    def test_batches_of_none_to_twenty_actions(self):
        chance = Random(119)
        for size in range(21):
            for kind in (list, tuple):
                joiner, before = started(chance, 4 + size % 18)
                batch = kind(good_actions(chance, joiner.forest(), size))
                self.same(self.call(joiner.apply, batch), len(before) + len(batch))
                self.check_joiner(joiner, single(4 + size % 18), before + list(batch), 60)
                for version in range(len(before) + len(batch), 0, -1):
                    self.same(joiner.undo(), version - 1)
                self.check_joiner(joiner, single(4 + size % 18), [], 60)

    def test_values_that_are_no_batches(self):
        chance = Random(120)
        for value in NO_BATCHES:
            joiner, before = started(chance, 5)
            seen = []
            self.assertEqual(vars(self.refused(BadBatch, joiner.apply, value)), {}, value)
            self.refused(BadBatch, joiner.apply, value, on_step=seen.append)
            self.assertEqual(seen, [])
            self.check_joiner(joiner, single(5), before, 60)

    def test_empty_batches(self):
        joiner, before = started(Random(121), 5)
        for batch in ([], ()):
            self.same(joiner.apply(batch), len(before))
            self.same(joiner.apply(batch, on_step=self.fail), len(before))

    def test_an_error_at_any_index(self):
        chance = Random(122)
        for repeat in range(60):
            joiner, before = started(chance, 6)
            batch = good_actions(chance, joiner.forest(), 6)
            index = chance.randrange(len(batch) + 1)
            n = len(replayed(joiner.forest(), batch[:index])[0][-1])
            wrong = chance.choice([("join", 0, 0), ("join", n, 0), ("join", 0, None), ("join", [1], (2,))])
            batch[index:index] = [wrong]
            seen = []
            error = self.refused(Rejected, joiner.apply, batch, on_step=lambda it: seen.append(it.forest()))
            self.same(error.index, index)
            self.same(seen, replayed(joiner.forest(), batch[:index])[0][1:])
            self.check_joiner(joiner, single(6), before, 60)

    def test_any_values_in_joins(self):
        for value in MANY_KINDS + not_vertices(3):
            for action in (("join", value, 0), ("join", 0, value), ("join", value, value)):
                joiner = Joiner(3)
                if type(true_action((0, 1, 2), action)[0]) is str:
                    self.same(self.refused(Rejected, joiner.apply, [("grow",), ("join", 0, 3), action]).index, 2)
                    self.check_joiner(joiner, single(3), [], 60)

    def test_the_bound_and_the_number_of_vertices(self):
        joiner = Joiner(5, bound=3)
        self.same(self.refused(Rejected, joiner.apply, [("grow",)] * 5).index, 3)
        self.check_joiner(joiner, single(5), [], 3)
        self.same(joiner.apply([("grow",)] * 3), 3)
        self.same(self.refused(Rejected, joiner.apply, (("join", None, 0),)).index, 0)
        joiner = Joiner(20)
        self.same(self.refused(Rejected, joiner.apply, [("grow",)] * 20).index, 4)
        self.check_joiner(joiner, single(20), [], 60)


class StepTest(JoinerCase):
    def test_each_step_sees_the_state_so_far(self):
        chance = Random(123)
        for repeat in range(20):
            joiner, before = started(chance, 7)
            batch = good_actions(chance, joiner.forest(), 8)
            seen = []

            def on_step(given):
                self.assertIs(given, joiner)
                seen.append(len(given))
                self.check_joiner(given, single(7), before + batch[:len(seen)], 60)
                return chance.choice((None, False, True, 5, "stop", given))

            self.same(joiner.apply(batch, on_step=on_step), len(before) + len(batch))
            self.same(seen, [len(before) + count + 1 for count in range(len(batch))])
            self.check_joiner(joiner, single(7), before + batch, 60)

    def test_busy_comes_before_any_other_error(self):
        wrong = (
            lambda it: it.join(0, 1), lambda it: it.join(None, 9), lambda it: it.grow(), lambda it: it.undo(),
            lambda it: it.join_all(), lambda it: it.join_all(None), lambda it: it.join_all(None, None),
            lambda it: it.apply([]), lambda it: it.apply(None), lambda it: it.apply([("join", 9, 9)]),
            lambda it: it.set_bound(60), lambda it: it.set_bound(None), lambda it: it.set_bound(0),
        )
        for bound in (60, 3):
            joiner = Joiner(5, bound=bound)
            seen = []

            def on_step(given):
                for call in wrong:
                    self.assertEqual(vars(self.refused(Busy, call, given)), {})
                seen.append(given.forest())
                self.check_joiner(given, single(5), [("join", 0, 1), ("grow",), ("join", 5, 4)][:len(seen)], bound)

            self.same(joiner.apply([("join", 0, 1), ("grow",), ("join", 5, 4)], on_step=on_step), 3)
            self.assertEqual(len(seen), 3)
            self.same(joiner.undo(), 2)
            self.same(joiner.set_bound(9), 9)

    def test_copies_are_not_busy(self):
        joiner = Joiner(5, bound=7)
        copies = []

        def on_step(given):
            copy = given.copy()
            self.assertTrue(copy == given)
            copy.grow()
            copy.undo()
            copy.undo()
            copy.apply([("join", 3, 4)], on_step=lambda it: copies.append(it.forest()))
            copy.set_bound(9)
            copies.append(copy.forest())

        joiner.apply([("join", 0, 1), ("join", 0, 2)], on_step=on_step)
        self.same(copies, [(0, 1, 2, 3, 3)] * 2 + [(0, 0, 2, 3, 3)] * 2)
        self.check_joiner(joiner, single(5), [("join", 0, 1), ("join", 0, 2)], 7)

    def test_the_batch_is_read_once(self):
        batch = [("join", 0, 1), ("grow",), ("join", 2, 3)]
        joiner = Joiner(4)

        def on_step(given):
            batch.clear()
            batch.append(("join", 0, 0))

        self.same(joiner.apply(batch, on_step=on_step), 3)
        self.check_joiner(joiner, single(4), [("join", 0, 1), ("grow",), ("join", 2, 3)], 60)
        self.same(batch, [("join", 0, 0)])

    def test_exceptions_of_steps(self):
        chance = Random(124)
        kinds = (KeyError("x"), ZeroDivisionError(), NoHistory(), NoVertex(3), Rejected(7), Busy(), Stop(),
                 KeyboardInterrupt(), BadBatch())
        for raised in kinds:
            for stop in range(1, 4):
                joiner, before = started(chance, 8)
                batch = good_actions(chance, joiner.forest(), 3)

                def on_step(given):
                    if len(given) == len(before) + stop:
                        raise raised

                with self.assertRaises(BaseException) as caught:
                    joiner.apply(batch, on_step=on_step)
                self.assertIs(caught.exception, raised)
                self.check_joiner(joiner, single(8), before, 60)
                self.same(joiner.set_bound(50), 50)
                self.same(joiner.apply(batch), len(before) + 3)
                self.check_joiner(joiner, single(8), before + batch, 50)

    def test_an_error_of_a_busy_joiner_propagates(self):
        joiner = Joiner(4)
        self.refused(Busy, joiner.apply, [("grow",), ("grow",)], on_step=lambda it: it.grow())
        self.check_joiner(joiner, single(4), [], 60)
        self.same(joiner.grow(), 1)

    def test_a_batch_in_a_batch_of_another_joiner(self):
        joiner, other = Joiner(4), Joiner(3)
        self.same(joiner.apply([("grow",)] * 2, on_step=lambda it: other.apply([("grow",)])), 2)
        self.same((len(joiner), len(other)), (2, 2))
        with self.assertRaises(Rejected):
            joiner.apply([("grow",)], on_step=lambda it: other.apply([("join", 0, 0)]))
        self.check_joiner(joiner, single(4), [("grow",)] * 2, 60)
        self.check_joiner(other, single(3), [("grow",)] * 2, 60)


if __name__ == "__main__":
    unittest.main()
