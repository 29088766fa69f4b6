"""Tests of [47] to [53]: which joins come before others, and when each join can happen."""

import unittest
from itertools import permutations, product

from linkforests.errors import NotBuilt, NoVertex, SameVertex
from linkforests.forests import single
from linkforests.orders import (
    always_before, early_history, greatest_time, late_history, least_time, order_certificate, order_holds, order_pairs,
)
from tests.support import (
    MANY_KINDS, CallCase, after_each, all_forests, built_forests, is_true_history, listed_histories, lower_vertices,
    nested, not_vertices, shaped_built, true_heavy, unbuilt_forests, up_path, variants,
)

OF_ONE = (least_time, greatest_time, early_history, late_history)
OF_TWO = (always_before, order_certificate)


def listed_forests():
    """Returns the built forests of up to five vertices, and one of each shape of six and seven."""
    small = [forest for n in range(1, 6) for forest in all_forests(n) if listed_histories(forest)]
    return small + shaped_built(6) + shaped_built(7)


def all_before(forest, vertex):
    """Returns the ascending tuple of the vertices that come before vertex in some history, from a listing."""
    return tuple(sorted({other for row in listed_histories(forest) for other in row[:row.index(vertex)]}))


def joined_before(forest, vertex):
    """Returns a beginning of all that can be joined without vertex, found by trying each vertex again and again."""
    begun = ()
    while True:
        longer = [row for row in after_each(forest, begun) if row[-1] != vertex]
        if not longer:
            return begun
        begun = longer[-1]


def is_true_order(forest, one, other, value):
    """Returns whether value is a certificate for one and other, found by joining vertex by vertex."""
    if type(value) is not tuple or len(value) != 2:
        return False
    word, part = value
    if word == "after":
        return is_true_history(forest, part) and part.index(other) < part.index(one)
    if word != "before" or type(part) is not tuple or {type(item) for item in part} - {int}:
        return False
    if list(part) != sorted(set(part)) or not set(part) <= set(lower_vertices(forest)) - {one, other}:
        return False
    return can_begin(forest, part) and blocked(forest, part, one)


def an_order(forest, vertices):
    """Returns a beginning of some of these vertices, of all of them if they can all be joined."""
    begun = ()
    while True:
        longer = [row for row in after_each(forest, begun) if row[-1] in vertices]
        if not longer:
            return begun
        begun = longer[0]


def can_begin(forest, vertices):
    return len(an_order(forest, vertices)) == len(vertices)


def blocked(forest, vertices, one):
    return {row[-1] for row in after_each(forest, an_order(forest, vertices))} <= {one}


class PairsTest(CallCase):
    def test_listed_forests(self):
        for forest in listed_forests():
            pairs = []
            for one, other in product(lower_vertices(forest), repeat=2):
                wanted = one != other and one not in all_after(forest, other)
                self.assertIs(self.call(always_before, forest, one, other), wanted, (forest, one, other))
                pairs += [(one, other)] * wanted
            self.same(self.call(order_pairs, forest), tuple(pairs), forest)

    def test_large_forests(self):
        for forest in built_forests():
            pairs = self.call(order_pairs, forest)
            for one in lower_vertices(forest):
                free = joined_before(forest, one)
                wanted = [(one, other) for other in lower_vertices(forest) if other != one and other not in free]
                self.same([pair for pair in pairs if pair[0] == one], wanted, (forest, one))
                for other in lower_vertices(forest):
                    self.assertIs(always_before(forest, one, other), (one, other) in wanted)
            self.assertEqual(list(pairs), sorted(set(pairs)))

    def test_forests_without_pairs(self):
        self.same(order_pairs((0,)), ())
        self.same(order_pairs(single(24)), ())
        self.same(order_pairs((0,) * 24), ())


def all_after(forest, vertex):
    """Returns the set of the vertices that come after vertex in some history, from a listing."""
    return {other for row in listed_histories(forest) for other in row[row.index(vertex) + 1:]}


class CertificateTest(CallCase):
    def test_listed_forests(self):
        for forest in listed_forests():
            for one, other in permutations(lower_vertices(forest), 2):
                found = self.call(order_certificate, forest, one, other)
                self.assertTrue(is_true_order(forest, one, other, found), (forest, one, other, found))
                before = all(row.index(one) < row.index(other) for row in listed_histories(forest))
                self.same(found[0], "before" if before else "after")
                if before:
                    self.same(found[1], all_before(forest, one))
                self.assertIs(self.call(order_holds, forest, one, other, found), True)

    def test_large_forests(self):
        kinds = {"before": 0, "after": 0}
        for forest in built_forests()[::2]:
            for one in lower_vertices(forest):
                free = tuple(sorted(joined_before(forest, one)))
                for other in lower_vertices(forest):
                    if other != one:
                        kinds[self.check_large(forest, one, other, free)] += 1
        self.assertGreater(min(kinds.values()), 300)

    def check_large(self, forest, one, other, free):
        found = self.call(order_certificate, forest, one, other)
        self.assertIs(order_holds(forest, one, other, found), True)
        if other in free:
            self.same(found[0], "after")
            self.assertTrue(is_true_order(forest, one, other, found))
        else:
            self.same(found, ("before", free))
        return found[0]

    def test_exactly_one_kind_exists(self):
        for forest in shaped_built(5) + shaped_built(6):
            vertices = lower_vertices(forest)
            rows = [("after", row) for row in listed_histories(forest)]
            rows += [("before", tuple(v for v in vertices if bits >> v & 1)) for bits in range(2 ** len(forest))]
            for one, other in permutations(vertices, 2):
                held = [row for row in set(rows) if self.call(order_holds, forest, one, other, row)]
                self.assertEqual({row[0] for row in held}, {order_certificate(forest, one, other)[0]})
                self.assertTrue(all(is_true_order(forest, one, other, row) for row in held))


class HoldsTest(CallCase):
    def check(self, forest, one, other, value):
        wanted = is_true_order(forest, one, other, value)
        self.assertIs(self.call(order_holds, forest, one, other, value), wanted, (forest, one, other, value))
        return wanted

    def test_all_histories(self):
        for forest in shaped_built(5) + shaped_built(6):
            for one, other in permutations(lower_vertices(forest), 2):
                for row in listed_histories(forest):
                    self.check(forest, one, other, ("after", row))
                    self.check(forest, one, other, ("before", row))

    def test_certificates_with_a_part_changed(self):
        for forest in shaped_built(5) + shaped_built(6) + list(built_forests()[::17]):
            pairs = list(permutations(lower_vertices(forest), 2))
            for one, other in pairs[::1 + len(pairs) // 5]:
                for value in variants(order_certificate(forest, one, other)):
                    self.check(forest, one, other, value)

    def test_certificates_of_other_pairs(self):
        for forest in shaped_built(6) + [(0, 0, 1, 0, 0, 4, 4)]:
            pairs = list(permutations(lower_vertices(forest), 2))
            found = {order_certificate(forest, *pair) for pair in pairs}
            for pair, value in product(pairs, found):
                self.check(forest, *pair, value)

    def test_one_and_other_are_not_among_the_vertices(self):
        # After 2 only 1 is left without 3, and 1 is too heavy.
        self.assertTrue(self.check((0, 0, 1, 0), 3, 1, ("before", (2,))))
        self.assertFalse(self.check((0, 0, 1, 0), 3, 2, ("before", (2,))))
        self.assertFalse(self.check((0, 0, 1, 0), 3, 1, ("before", (2, 3))))
        self.assertFalse(self.check((0, 0, 1, 0), 3, 1, ("before", (0, 2))))
        self.assertFalse(self.check((0, 0, 1, 0), 2, 1, ("before", (2,))))

    def test_bools_are_no_vertices(self):
        self.assertTrue(self.check((3, 0, 3, 3), 2, 0, ("before", (1,))))
        self.assertFalse(self.check((3, 0, 3, 3), 2, 0, ("before", (True,))))
        self.assertTrue(self.check((0, 0, 0), 1, 2, ("after", (2, 1))))
        self.assertFalse(self.check((0, 0, 0), 1, 2, ("after", (2, True))))

    def test_values_of_other_kinds(self):
        parts = MANY_KINDS + (nested(57), "before", "after", (2,), (3, 2, 1), [2])
        for forest in ((0, 0, 0), (0, 0, 1, 0), (0,) * 24):
            for value in MANY_KINDS + (nested(60), ("before",), ("after", (1, 2), 0), ["after", (2, 1)], "before"):
                self.check(forest, 1, 2, value)
            for value in product(parts, repeat=2):
                self.check(forest, 1, 2, value)
                self.check(forest, 2, 1, value)


class TimesTest(CallCase):
    def check_histories(self, forest, vertex):
        early, late = (self.call(function, forest, vertex) for function in (early_history, late_history))
        self.assertTrue(is_true_history(forest, early) and is_true_history(forest, late), (forest, vertex))
        self.same(self.call(least_time, forest, vertex), early.index(vertex) + 1, (forest, vertex))
        self.same(self.call(greatest_time, forest, vertex), late.index(vertex) + 1, (forest, vertex))

    def test_listed_forests(self):
        for forest in listed_forests():
            for vertex in lower_vertices(forest):
                times = [row.index(vertex) + 1 for row in listed_histories(forest)]
                self.same((least_time(forest, vertex), greatest_time(forest, vertex)), (min(times), max(times)))
                self.check_histories(forest, vertex)

    def test_large_forests(self):
        for forest in built_forests():
            for vertex in lower_vertices(forest):
                self.check_histories(forest, vertex)
                self.same(greatest_time(forest, vertex), 1 + len(joined_before(forest, vertex)))
                self.same(least_time(forest, vertex), least_by_sets(forest, vertex), (forest, vertex))

    def test_fewer_vertices_with_more_weight(self):
        # Children of 0 with the weights 1, 2, 2, 3 and 6: before the last one, 1, 2 and 2 are enough.
        forest = (0, 0, 0, 2, 0, 4, 0, 6, 6, 0, 9, 9, 9, 9, 9)
        self.same(least_time(forest, 9), 11)
        self.same(greatest_time(forest, 9), 14)

    def test_a_sum_that_cannot_be_met_exactly(self):
        # Children of 0 with the weights 1, 1, 3 and 5: 4 is 1 and 3, which cannot be joined without the other 1.
        forest = (0, 0, 0, 0, 3, 3, 0, 6, 6, 6, 6)
        self.same(least_time(forest, 6), 10)

    def test_stars(self):
        for vertex in range(1, 24):
            self.same((least_time((0,) * 24, vertex), greatest_time((0,) * 24, vertex)), (1, 23))


def least_by_sets(forest, vertex):
    """Returns the least time, found by trying sets of siblings from the lightest on."""
    def tree(top):
        return {top}.union(*[tree(v) for v in lower_vertices(forest) if forest[v] == top])
    load = len(tree(vertex))
    loads = sorted(len(tree(v)) for v in lower_vertices(forest) if forest[v] == forest[vertex] and v != vertex)
    sums = {()}
    for weight in loads:
        sums |= {row + (weight,) for row in sums if weight <= 1 + sum(row)}
    return load + min(sum(row) for row in sums if sum(row) >= load - 1)


class WrongTest(CallCase):
    def test_values_that_are_no_vertices(self):
        for forest in ((0, 0), (1, 1), (0, 0, 1, 0), (0,) * 24):
            good = lower_vertices(forest)[0]
            for value in not_vertices(len(forest)) + (forest[good],):
                for function in OF_ONE:
                    self.check_no_vertex(value, function, forest, value)
                for function in OF_TWO:
                    self.check_both(value, good, function, forest)
                for held in (("before", ()), None, nested(60)):
                    self.check_both(value, good, order_holds, forest, held)

    def check_no_vertex(self, value, function, *given):
        self.assertIs(self.refused(NoVertex, function, *given).value, value)

    def check_both(self, value, good, function, forest, *more):
        self.check_no_vertex(value, function, forest, value, good, *more)
        self.check_no_vertex(value, function, forest, good, value, *more)
        self.check_no_vertex(value, function, forest, value, "other", *more)
        self.check_no_vertex(value, function, forest, value, value, *more)

    def test_roots_are_not_joined(self):
        for forest in built_forests():
            for vertex, parent in enumerate(forest):
                if vertex == parent:
                    for function in OF_ONE:
                        self.check_no_vertex(vertex, function, forest, vertex)
                    for function in OF_TWO:
                        self.check_no_vertex(vertex, function, forest, vertex, vertex)

    def test_equal_vertices(self):
        for forest in built_forests():
            for vertex in lower_vertices(forest):
                self.assertEqual(vars(self.refused(SameVertex, order_certificate, forest, vertex, vertex)), {})
                for value in (("before", ()), ("after", lower_vertices(forest)), None, [1]):
                    self.assertEqual(vars(self.refused(SameVertex, order_holds, forest, vertex, vertex, value)), {})

    def test_forests_that_are_not_built(self):
        for forest in unbuilt_forests()[::3] + [(0, 0, 1), up_path(24)]:
            low = lower_vertices(forest)[-1]
            self.check_not_built(order_pairs, forest)
            for value in (low, -1, None, True, [1], nested(60)):
                for function in OF_ONE:
                    self.check_not_built(function, forest, value)
                for function in OF_TWO:
                    self.check_not_built(function, forest, value, low)
                    self.check_not_built(function, forest, low, value)
                self.check_not_built(order_holds, forest, value, low, ("before", ()))
                self.check_not_built(order_holds, forest, low, value, value)

    def check_not_built(self, function, forest, *given):
        error = self.refused(NotBuilt, function, forest, *given)
        self.assertIs(type(error.vertex), int)
        self.assertIn(error.vertex, true_heavy(forest))


if __name__ == "__main__":
    unittest.main()
