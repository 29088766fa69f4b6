"""Tests of [15], [19] to [23] and [25]: which forests are built, certificates, and the way along a history."""

import inspect
import unittest
from itertools import permutations, product
from random import Random

from linkforests.builds import (
    certificate, certificate_holds, heavy_children, is_built, joins_of, run_joins, states_along,
)
from linkforests.forests import single
from tests.support import (
    MANY_KINDS, CallCase, all_forests, arising_forests, built_forests, is_true_history, joined_all,
    listed_histories, nested, random_history, sample_forests, small_forests, true_heavy, unbuilt_forests, up_path,
    variants, with_item,
)


def some_forests():
    return sample_forests() + list(built_forests())


def true_certificate(forest, value):
    """Returns whether value is a certificate, found by doing its joins or by counting paths."""
    if type(value) is not tuple or len(value) != 2:
        return False
    if value[0] == "history":
        return is_true_history(forest, value[1])
    return value[0] == "heavy" and type(value[1]) is int and value[1] in true_heavy(forest)


class BuiltTest(CallCase):
    def test_all_forests_of_up_to_six_vertices(self):
        for n in range(1, 7):
            arising = arising_forests(n)
            for forest in all_forests(n):
                if is_built(forest) is not (forest in arising):
                    self.fail(f"{forest}: {is_built(forest)}")
                if bool(heavy_children(forest)) is not (forest not in arising):
                    self.fail(f"{forest}: {heavy_children(forest)}")

    def test_heavy_children(self):
        for forest in some_forests():
            self.same(self.call(heavy_children, forest), true_heavy(forest), forest)

    def test_is_built(self):
        for forest in some_forests():
            self.assertIs(self.call(is_built, forest), not true_heavy(forest), forest)
        for forest in built_forests():
            self.assertIs(is_built(forest), True)

    def test_heavy_by_one(self):
        self.same(heavy_children((0, 0, 0, 2)), ())
        self.same(heavy_children((0, 0, 0, 2, 2)), (2,))
        self.same(heavy_children((0, 0, 0, 0, 3, 3)), ())
        self.same(heavy_children((0, 0, 0, 0, 3, 3, 3)), (3,))

    def test_children_of_the_same_weight_do_not_help(self):
        self.same(heavy_children((0, 0, 0, 1, 2)), (1, 2))
        self.same(heavy_children((0, 0, 0, 1, 2, 0)), ())

    def test_paths(self):
        self.same(heavy_children(up_path(24)), tuple(range(1, 23)))
        self.same(heavy_children(up_path(2)), ())
        self.same(heavy_children((0,)), ())


class CertificateTest(CallCase):
    def test_certificates(self):
        kinds = {"history": 0, "heavy": 0}
        for forest in some_forests():
            found = self.call(certificate, forest)
            self.assertTrue(true_certificate(forest, found), (forest, found))
            self.assertIs(self.call(certificate_holds, forest, found), True)
            kinds[found[0]] += 1
        self.assertGreater(min(kinds.values()), 100)

    def test_exactly_one_kind_exists(self):
        for forest in small_forests():
            rows = [("history", order) for size in range(len(forest)) for order in permutations(range(4), size)]
            rows += [("heavy", vertex) for vertex in range(5)]
            held = {row[0] for row in rows if certificate_holds(forest, row)}
            self.assertEqual(held, {certificate(forest)[0]})

    def test_all_orders_in_small_forests(self):
        for forest in small_forests():
            histories = listed_histories(forest)
            for size in range(len(forest) + 1):
                for order in permutations(range(len(forest)), size):
                    self.assertIs(certificate_holds(forest, ("history", order)), order in histories)

    def test_histories_in_other_orders(self):
        chance = Random(22)
        for forest in built_forests():
            history = random_history(chance, forest)
            self.assertIs(self.call(certificate_holds, forest, ("history", history)), True)
            mixed = tuple(chance.sample(history, len(history)))
            self.assertIs(certificate_holds(forest, ("history", mixed)), is_true_history(forest, mixed))

    def test_heavy_and_other_children(self):
        for forest in some_forests():
            heavy = true_heavy(forest)
            for vertex in range(-1, len(forest) + 1):
                self.assertIs(certificate_holds(forest, ("heavy", vertex)), vertex in heavy)

    def test_certificates_with_a_part_changed(self):
        for forest in built_forests()[::4] + tuple(unbuilt_forests()[::4]) + ((0, 0, 1), (1, 1, 0), (0, 0)):
            for value in variants(certificate(forest)):
                self.assertIs(self.call(certificate_holds, forest, value), true_certificate(forest, value), value)

    def test_bools_are_no_vertices(self):
        self.assertIs(certificate_holds((0, 0), ("history", (True,))), False)
        self.assertIs(certificate_holds((1, 1), ("history", (False,))), False)
        self.assertIs(certificate_holds((0, 0, 1), ("heavy", True)), False)
        self.assertIs(certificate_holds((2, 0, 2), ("heavy", False)), False)
        self.assertIs(certificate_holds((2, 0, 2), ("heavy", 0)), True)

    def test_words_must_match(self):
        self.assertIs(certificate_holds((0,), ("history", ())), True)
        for word in ("", "History", "histor", "heavy", "history ", ("history",), ["history"], None, 0):
            self.assertIs(certificate_holds((0,), (word, ())), False)
        for word in ("", "Heavy", "history", ("heavy",), None):
            self.assertIs(certificate_holds((0, 0, 1), (word, 1)), False)

    def test_values_of_other_kinds(self):
        parts = MANY_KINDS + (nested(57), "history", "heavy")
        for forest in ((0,), (0, 0), (0, 0, 1), up_path(24), (0,) * 24):
            for value in MANY_KINDS + (nested(60), ("history",), ("heavy", 1, 1), "heavy", ["heavy", 1]):
                self.assertIs(self.call(certificate_holds, forest, value), False)
            for value in product(parts, repeat=2):
                self.assertIs(self.call(certificate_holds, forest, value), true_certificate(forest, value), value)


class AlongTest(CallCase):
    def histories(self):
        chance = Random(25)
        for forest in built_forests():
            for history in {certificate(forest)[1], random_history(chance, forest)}:
                yield forest, history

    def test_joins_of(self):
        for forest, history in self.histories():
            joins = self.call(joins_of, forest, history)
            self.same(joins, tuple((vertex, forest[vertex]) for vertex in history))
            self.same(run_joins(len(forest), joins), forest)

    def test_states_along(self):
        for forest, history in self.histories():
            states = self.call(states_along, forest, history)
            joins = [(vertex, forest[vertex]) for vertex in history]
            self.same(states, [joined_all(len(forest), joins[:size]) for size in range(len(joins) + 1)])
            self.same((states[0], states[-1]), (single(len(forest)), forest))

    def test_states_along_is_a_generator(self):
        self.assertTrue(inspect.isgenerator(states_along((0, 0), (1,))))
        self.same(list(states_along((0,), ())), [(0,)])
        self.same(joins_of((0,), ()), ())

    def test_states_can_be_left_early(self):
        states = states_along((0,) * 24, tuple(range(1, 24)))
        self.same([next(states), next(states)], [single(24), with_item(single(24), 1, 0)])


if __name__ == "__main__":
    unittest.main()
