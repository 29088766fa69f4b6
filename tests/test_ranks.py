"""Tests of [102] to [110]: joins by rank."""

import math
import unittest
from functools import lru_cache
from itertools import permutations, product
from random import Random

from linkforests.builds import beside, is_built
from linkforests.errors import BadJoin
from linkforests.forests import renamed, single
from linkforests.ranks import (
    count_rank_histories, gaps, heights, is_rank_history, is_ranked, rank_certificate, rank_certificate_holds,
    run_rank_joins,
)
from tests.support import (
    MANY_KINDS, CallCase, all_forests, binomial_tree, built_forests, large_forests, lower_vertices, nested,
    random_forest, sample_forests, shaped_forests, true_weights, up_path, variants, with_item,
)


def height_of(forest, vertex):
    """Returns the height of a vertex: 0 without children, otherwise 1 plus the greatest height of its children."""
    return max([1 + height_of(forest, v) for v in lower_vertices(forest) if forest[v] == vertex], default=0)


def true_heights(forest):
    return tuple(height_of(forest, vertex) for vertex in range(len(forest)))


def true_gaps(forest):
    """Returns the ascending tuple of all gaps, rank by rank."""
    tops = true_heights(forest)
    rows = product(lower_vertices(forest), range(len(forest)))
    return tuple((child, rank) for child, rank in rows if rank < tops[child] and rank not in [
        tops[v] for v in lower_vertices(forest) if forest[v] == forest[child]])


def rank_joins(forest):
    """Returns the list of all joins by rank in the forest."""
    tops = true_heights(forest)
    pairs = permutations([v for v, parent in enumerate(forest) if v == parent], 2)
    return [(child, parent) for child, parent in pairs if tops[child] <= tops[parent]]


@lru_cache(maxsize=None)
def ranked_forests(n):
    """Returns the set of all forests that arise from n single vertices by joins by rank."""
    found = {single(n)}
    front = [single(n)]
    while front:
        forest = front.pop()
        longer = {with_item(forest, child, parent) for child, parent in rank_joins(forest)} - found
        found |= longer
        front += longer
    return frozenset(found)


def drawn_joins(chance, n, many):
    """Returns joins by rank that were drawn one after another, and the forest to which they lead."""
    forest, row = single(n), []
    while len(row) < many:
        row.append(chance.choice(rank_joins(forest)))
        forest = with_item(forest, *row[-1])
    return tuple(row), forest


@lru_cache(maxsize=None)
def drawn_ranked():
    """Returns forests of 1 to 24 vertices that were made by joins by rank."""
    chance = Random(102)
    rows = [drawn_joins(chance, n, many) for n in range(1, 25) for many in (n - 1, n - 1, n // 2)]
    return tuple(forest for row, forest in rows)


def many_forests():
    """Returns forests of 1 to 24 vertices: any, deep ones, and ones made by joins by rank or by weight."""
    chance = Random(103)
    rows = sample_forests() + list(built_forests()) + list(drawn_ranked())
    rows += [up_path(n)[:-1] + (chance.randrange(n - 1),) for n in range(3, 25)]
    return rows + [renamed(forest, tuple(chance.sample(range(len(forest)), len(forest)))) for forest in drawn_ranked()]


def is_true_rank_history(forest, value):
    """Returns whether value is a rank history, found by doing its joins."""
    if type(value) is not tuple or {type(item) for item in value} - {int}:
        return False
    if sorted(value) != list(lower_vertices(forest)):
        return False
    state = single(len(forest))
    for vertex in value:
        if (vertex, forest[vertex]) not in rank_joins(state):
            return False
        state = with_item(state, vertex, forest[vertex])
    return True


def count_by_sets(forest):
    """Returns the number of rank histories, counted over the sets of the vertices that are joined."""
    @lru_cache(maxsize=None)
    def count(state):
        if state == forest:
            return 1
        moves = [(v, forest[v]) for v in lower_vertices(forest) if state[v] == v]
        allowed = set(rank_joins(state))
        return sum(count(with_item(state, *move)) for move in moves if move in allowed)
    return count(single(len(forest)))


class GapsTest(CallCase):
    def check(self, forest):
        wanted = true_gaps(forest)
        self.same(self.call(heights, forest), true_heights(forest))
        self.same(self.call(gaps, forest), wanted, forest)
        self.assertIs(self.call(is_ranked, forest), wanted == ())

    def test_many_forests(self):
        for forest in many_forests():
            self.check(forest)

    def test_forests_that_arise(self):
        for forest in drawn_ranked():
            self.assertIs(is_ranked(forest), True)

    def test_a_search_through_all_joins(self):
        for n in range(1, 6):
            for forest in all_forests(n):
                self.check(forest)
                self.assertIs(is_ranked(forest), forest in ranked_forests(n), forest)

    def test_ranked_forests_have_heavy_trees(self):
        for forest in drawn_ranked():
            for weight, height in zip(true_weights(forest), heights(forest)):
                self.assertGreaterEqual(weight, 2 ** height)

    def test_ranked_and_built_are_different(self):
        # Below 0 stand a single vertex and a star of four: it is low enough to be joined by rank, but too heavy.
        self.assertIs(is_ranked((0, 0, 0, 2, 2, 2)), True)
        self.assertIs(is_built((0, 0, 0, 2, 2, 2)), False)
        # Below 0 stand three single vertices and a tree of four of height 2: it is light enough, but too high.
        self.assertIs(is_built((0, 0, 0, 0, 0, 4, 4, 6)), True)
        self.same(gaps((0, 0, 0, 0, 0, 4, 4, 6)), ((4, 1),))


class CertificateTest(CallCase):
    def test_many_forests(self):
        for forest in many_forests():
            found = self.call(rank_certificate, forest)
            if true_gaps(forest):
                self.assertEqual((len(found), found[0]), (3, "gap"))
                self.assertIn(found[1:], true_gaps(forest))
            else:
                self.assertEqual((len(found), found[0]), (2, "history"))
                self.assertTrue(is_true_rank_history(forest, found[1]), (forest, found))
            self.same(found, tuple(found))
            self.assertIs(self.call(rank_certificate_holds, forest, found), True)
            self.same(rank_certificate(forest), found)


class HoldsTest(CallCase):
    def check(self, forest, value):
        """Checks both functions for a value, and the value as a part of a certificate."""
        right = is_true_rank_history(forest, value)
        self.assertIs(self.call(is_rank_history, forest, value), right, (forest, value))
        self.check_certificate(forest, ("history", value))
        return right

    def check_certificate(self, forest, value):
        right = False
        if type(value) is tuple and len(value) == 2:
            right = value[0] == "history" and is_true_rank_history(forest, value[1])
        elif type(value) is tuple and len(value) == 3:
            right = value[0] == "gap" and {type(part) for part in value[1:]} == {int} and value[1:] in true_gaps(forest)
        self.assertIs(self.call(rank_certificate_holds, forest, value), right, (forest, value))
        return right

    def test_all_orders(self):
        for n in range(1, 7):
            for forest in shaped_forests(n):
                rows = [row for row in permutations(lower_vertices(forest)) if self.check(forest, row)]
                self.assertEqual(len(rows), count_rank_histories(forest))
                self.assertEqual(rows == [], not is_ranked(forest))

    def test_histories_changed(self):
        found = {True: 0, False: 0}
        for forest in drawn_ranked()[::4]:
            for value in variants(rank_certificate(forest)[1]):
                found[self.check(forest, value)] += 1
        self.assertGreater(min(found.values()), 200)

    def test_certificates_changed(self):
        found = {True: 0, False: 0}
        for forest in many_forests()[::9]:
            for value in variants(rank_certificate(forest)):
                found[self.check_certificate(forest, value)] += 1
        self.assertGreater(min(found.values()), 100)

    def test_all_gaps(self):
        for forest in [up_path(24), up_path(5), (0, 0, 1, 2, 0)] + large_forests()[::11]:
            for child, rank in product(range(-1, len(forest) + 1), range(-1, 8)):
                self.check_certificate(forest, ("gap", child, rank))
                self.check_certificate(forest, ("history", child, rank))
            for child, rank in true_gaps(forest):
                self.assertTrue(self.check_certificate(forest, ("gap", child, rank)))
                self.assertFalse(self.check_certificate(forest, ("gap", (child, rank))))
                self.assertFalse(self.check_certificate(forest, ["gap", child, rank]))

    def test_bools_are_no_integers(self):
        self.assertTrue(self.check((0, 0), (1,)))
        self.assertFalse(self.check((0, 0), (True,)))
        self.assertTrue(self.check((1, 1), (0,)))
        self.assertFalse(self.check((1, 1), (False,)))
        self.assertTrue(self.check_certificate((0, 0, 1), ("gap", 1, 0)))
        self.assertFalse(self.check_certificate((0, 0, 1), ("gap", True, 0)))
        self.assertFalse(self.check_certificate((0, 0, 1), ("gap", 1, False)))

    def test_values_of_other_kinds(self):
        for forest in ((0,), (0, 0), (0, 0, 1), (0, 0, 1, 0), (0,) * 24):
            for value in MANY_KINDS + (nested(60), [1], [2, 3, 1], (2, 3, 1), {"2": 3}):
                self.check(forest, value)
                self.check_certificate(forest, value)
                for word in ("history", "gap", "heavy", None, 0, ()):
                    self.check_certificate(forest, (word, value))
                    self.check_certificate(forest, (word, 1, value))
                    self.check_certificate(forest, (word, value, 0))


class CountTest(CallCase):
    def test_small_forests(self):
        chance = Random(109)
        forests = [forest for n in range(1, 7) for forest in shaped_forests(n)]
        forests += [drawn_joins(chance, n, n - 1)[1] for n in range(5, 11) for repeat in range(6)]
        forests += [drawn_joins(chance, n, n - 3)[1] for n in range(5, 11) for repeat in range(4)]
        forests += [random_forest(chance, n) for n in range(5, 11) for repeat in range(3)]
        forests += [forest for forest in built_forests() if 6 < len(forest) < 11]
        for forest in forests:
            self.same(self.call(count_rank_histories, forest), count_by_sets(forest), forest)

    def test_stars(self):
        for n in range(1, 25):
            self.same(count_rank_histories((0,) * n), math.factorial(n - 1))

    def test_two_trees_side_by_side(self):
        for forest in drawn_ranked():
            if len(forest) < 13:
                joins = len(lower_vertices(forest))
                wanted = count_rank_histories(forest) ** 2 * math.comb(2 * joins, joins)
                self.same(count_rank_histories(beside(forest, forest)), wanted)

    def test_forests_with_a_gap(self):
        for forest in large_forests():
            self.assertEqual(count_rank_histories(forest) == 0, true_gaps(forest) != ())

    def test_sums_over_the_last_joins(self):
        # Whatever can be joined last is below a root; without its own join the rest is a ranked forest, too.
        for forest in drawn_ranked() + (binomial_tree(16), binomial_tree(24)):
            lasts = [v for v in lower_vertices(forest) if forest[forest[v]] == forest[v]]
            before = [(v, with_item(forest, v, v)) for v in lasts]
            total = sum(count_rank_histories(state) for v, state in before if (v, forest[v]) in rank_joins(state))
            self.same(count_rank_histories(forest), total if lasts else 1, forest)


class RunTest(CallCase):
    def check(self, n, joins):
        wanted = None
        if type(joins) is tuple:
            forest = single(n)
            for index, item in enumerate(joins):
                if not is_pair(item) or item not in rank_joins(forest):
                    wanted = (index,)
                    break
                forest = with_item(forest, *item)
        else:
            wanted = (None,)
        if wanted is None:
            self.same(self.call(run_rank_joins, n, joins), forest)
        else:
            self.same(self.refused(BadJoin, run_rank_joins, n, joins).index, wanted[0], (n, joins))
        return wanted is None

    def test_drawn_joins(self):
        chance = Random(110)
        for n in range(1, 25):
            for many in (0, n // 2, n - 1):
                self.assertTrue(self.check(n, drawn_joins(chance, n, many)[0]))

    def test_joins_changed(self):
        chance = Random(111)
        found = {True: 0, False: 0}
        for n in (2, 3, 4, 6, 9, 24):
            for value in variants(drawn_joins(chance, n, n - 1)[0])[:1500]:
                found[self.check(n, value)] += 1
        self.assertGreater(min(found.values()), 50)

    def test_the_higher_root_is_not_the_child(self):
        self.assertTrue(self.check(3, ((1, 0), (2, 0))))
        self.assertFalse(self.check(3, ((1, 0), (0, 2))))
        # The tree of 0 is heavier, but not higher.
        self.assertTrue(self.check(5, ((1, 0), (2, 0), (4, 3), (0, 3))))

    def test_all_pairs(self):
        for row in product(product(range(-1, 4), repeat=2), repeat=2):
            self.check(3, row)

    def test_values_of_other_kinds(self):
        for n in (1, 2, 24):
            for value in MANY_KINDS + (nested(60), [(1, 0)], ["1"], "10", {"1": 0}):
                self.check(n, value)
                self.check(n, (value,))
                self.check(n, ((1, 0), value))
                self.check(n, ((1, value),))
                self.check(n, ((value, 0),))

    def test_bools_are_no_vertices(self):
        self.assertTrue(self.check(2, ((1, 0),)))
        for pair in ((True, 0), (1, False), (True, False), [1, 0], (1, 0, 0), (1,)):
            self.assertFalse(self.check(2, (pair,)))


def is_pair(item):
    return type(item) is tuple and len(item) == 2 and {type(part) for part in item} == {int}


if __name__ == "__main__":
    unittest.main()
