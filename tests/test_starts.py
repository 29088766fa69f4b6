"""Tests of [68] to [72]: starts of built forests, how many there are, and what they have in common."""

import unittest
from functools import reduce
from itertools import combinations, product
from random import Random

from linkforests.builds import beside, is_built
from linkforests.bounds import LISTED
from linkforests.errors import NotBuilt, TooMany
from linkforests.forests import single
from linkforests.growth import common_start, count_starts, grows_from, merge_starts, starts_of
from tests.support import (
    CallCase, all_forests, arising_forests, built_forests, grown, listed_beginnings, lower_vertices, random_beginning,
    random_built, random_forest, shaped_built, true_heavy, true_weights, unbuilt_forests, with_join,
)


def true_starts(forest):
    """Returns the ascending tuple of all starts, found by the beginnings of all histories."""
    return tuple(sorted({state_after(forest, row) for row in listed_beginnings(forest)}))


def state_after(forest, joined):
    """Returns the forest in which exactly these vertices are joined."""
    return tuple(parent if vertex in joined else vertex for vertex, parent in enumerate(forest))


def starts_by_joins(forest):
    """Returns the set of all starts of a forest, found join by join from single vertices."""
    found = {single(len(forest))}
    front = list(found)
    while front:
        state = front.pop()
        waiting = [vertex for vertex in lower_vertices(forest) if state[vertex] == vertex]
        for vertex in waiting:
            after = with_join(state, vertex, forest)
            # A vertex that is joined before one of its children would lead away from the forest.
            if after is not None and vertex not in [forest[other] for other in waiting] and after not in found:
                found.add(after)
                front.append(after)
    return found


def count_by_sets(forest, vertex):
    """Returns the number of starts of the tree of vertex, summed over the sets of children that can be joined."""
    sizes = true_weights(forest)
    children = [child for child in lower_vertices(forest) if forest[child] == vertex]
    counts = {child: count_by_sets(forest, child) for child in children}
    total = 0
    for size in range(len(children) + 1):
        for joined in combinations(children, size):
            if all(sizes[c] <= 1 + sum(sizes[d] for d in joined if sizes[d] < sizes[c]) for c in joined):
                total += reduce(lambda ways, child: ways * counts[child], set(children) - set(joined), 1)
    return total


def listed_built():
    """Returns built forests of up to seven vertices: all with up to four, and one of each shape of five to seven."""
    small = [forest for n in range(1, 5) for forest in all_forests(n) if forest in arising_forests(n)]
    return small + [forest for n in range(5, 8) for forest in shaped_built(n)]


def drawn_start(chance, forest):
    return state_after(forest, random_beginning(chance, forest, chance.randrange(len(forest))))


class StartCase(CallCase):
    def check_not_built(self, heavy, function, *given):
        error = self.refused(NotBuilt, function, *given)
        self.assertIs(type(error.vertex), int)
        self.assertIn(error.vertex, heavy)


class ListingTest(StartCase):
    def test_listed_forests(self):
        for forest in listed_built():
            wanted = true_starts(forest)
            self.same(self.call(starts_of, forest), wanted, forest)
            self.same(self.call(count_starts, forest), len(wanted), forest)

    def test_join_by_join(self):
        for forest in listed_built():
            self.assertEqual(set(starts_of(forest)), starts_by_joins(forest), forest)

    def test_starts_are_built_and_the_forest_grows_from_them(self):
        for forest in shaped_built(6):
            for start in starts_of(forest):
                self.assertTrue(is_built(start) and grows_from(forest, start))

    def test_large_forests(self):
        for forest in built_forests():
            wanted = 1
            for root in set(range(len(forest))) - set(lower_vertices(forest)):
                wanted *= count_by_sets(forest, root) if max_children(forest) < 12 else count_star(forest, root)
            self.same(self.call(count_starts, forest), wanted, forest)
            if wanted > LISTED:
                self.same(self.refused(TooMany, starts_of, forest).limit, LISTED)
            else:
                rows = self.call(starts_of, forest)
                self.assertEqual(len(rows), wanted)
                self.assertEqual(list(rows), sorted(set(rows)))
                self.assertTrue(all(is_built(row) and grows_from(forest, row) for row in rows[::7]))

    def test_stars(self):
        for n in range(1, 25):
            self.same(count_starts((0,) * n), 2 ** (n - 1))
            if n > 11:
                self.same(self.refused(TooMany, starts_of, (0,) * n).limit, 2000)
            else:
                self.assertEqual(len(starts_of((0,) * n)), 2 ** (n - 1))

    def test_exactly_as_many_as_can_be_listed(self):
        forest = beside(*[(0, 0, 0, 2)] * 3, *[(0, 0)] * 4)
        self.same(count_starts(forest), 2000)
        rows = self.call(starts_of, forest)
        self.assertEqual((len(rows), list(rows)), (2000, sorted(set(rows))))

    def test_many_but_not_too_many(self):
        forest = (0,) * 5 + (5,) * 5 + (10,) * 3
        self.same(count_starts(forest), 16 * 16 * 4)
        self.assertEqual(len(starts_of(forest)), 1024)
        self.same(count_starts(forest + (13, 13)), 2048)
        self.same(self.refused(TooMany, starts_of, forest + (13, 13)).limit, 2000)

    def test_forests_that_are_not_built(self):
        for forest in unbuilt_forests():
            self.check_not_built(true_heavy(forest), count_starts, forest)
            self.check_not_built(true_heavy(forest), starts_of, forest)
        forest = (0,) * 20 + (20, 20, 21)
        self.check_not_built((21,), starts_of, forest)


def max_children(forest):
    return max([forest.count(vertex) for vertex in range(len(forest))])


def count_star(forest, root):
    """Returns the number of starts of a vertex with many children, weight by weight of those joined."""
    sizes = true_weights(forest)
    children = [child for child in lower_vertices(forest) if forest[child] == root]
    rows = [(0, 1)]
    for child in sorted(children, key=lambda child: sizes[child]):
        ways = count_star(forest, child)
        kept = [(total, many * ways) for total, many in rows]
        rows = merged(kept + [(total + sizes[child], many) for total, many in rows if sizes[child] <= total + 1])
    return sum(many for total, many in rows)


def merged(rows):
    """Returns pairs in which the second parts of all pairs with the same first part are added up."""
    return [(total, sum(many for other, many in rows if other == total)) for total in {total for total, many in rows}]


class MergeTest(StartCase):
    def test_small_forests(self):
        for forest in listed_built()[::2]:
            starts = true_starts(forest)
            self.same(self.call(merge_starts, forest), single(len(forest)))
            for one, other in list(product(starts, repeat=2))[::5]:
                found = self.call(merge_starts, forest, one, other)
                self.assertIn(found, starts)
                self.assertTrue(grows_from(found, one) and grows_from(found, other))
                above = [start for start in starts if grows_from(start, one) and grows_from(start, other)]
                self.assertTrue(all(grows_from(start, found) for start in above))

    def test_large_forests(self):
        chance = Random(71)
        for forest in built_forests():
            for size in (0, 1, 2, 3, 8):
                starts = [drawn_start(chance, forest) for repeat in range(size)]
                joined = {v for start in starts for v in lower_vertices(start)}
                found = self.call(merge_starts, forest, *starts)
                self.same(found, state_after(forest, joined))
                self.assertTrue(is_built(found) and grows_from(forest, found))
                self.same(merge_starts(forest, *starts[::-1]), found)

    def test_the_forest_itself(self):
        for forest in built_forests():
            self.same(merge_starts(forest, forest), forest)
            self.same(merge_starts(forest, single(len(forest)), forest), forest)


class CommonTest(StartCase):
    def test_pairs_of_small_forests(self):
        for n in range(1, 5):
            for one, other in list(product(sorted(arising_forests(n)), repeat=2))[::3]:
                shared = set(starts_of(one)) & set(starts_of(other))
                found = self.call(common_start, one, other)
                self.assertIn(found, shared)
                self.assertTrue(all(grows_from(found, start) for start in shared), (one, other))

    def test_three_forests(self):
        chance = Random(72)
        for repeat in range(60):
            forests = chance.choices(sorted(arising_forests(5)), k=3)
            shared = set.intersection(*[set(starts_of(forest)) for forest in forests])
            found = self.call(common_start, *forests)
            self.assertIn(found, shared)
            self.assertTrue(all(grows_from(found, start) for start in shared), forests)

    def test_one_to_eight_forests_in_any_order(self):
        chance = Random(73)
        for n in range(1, 25):
            start = grown(chance, single(n), n // 2)
            for size in range(1, 9):
                forests = [grown(chance, start, chance.randrange(n)) for repeat in range(size)]
                found = self.call(common_start, *forests)
                self.assertTrue(is_built(found) and grows_from(found, start))
                self.assertTrue(all(grows_from(forest, found) for forest in forests))
                self.same(common_start(*chance.sample(forests, size)), found)
                if size < 8:
                    self.same(common_start(*forests, forests[0]), found)

    def test_one_forest(self):
        for forest in built_forests():
            self.same(self.call(common_start, forest), forest)
            self.same(self.call(common_start, forest, single(len(forest))), single(len(forest)))

    def test_the_first_forest_that_is_not_built(self):
        chance = Random(74)
        for bad in unbuilt_forests()[::2]:
            n = len(bad)
            good = [random_built(chance, n, 1 + chance.randrange(n)) for repeat in range(3)]
            self.check_not_built(true_heavy(bad), common_start, bad)
            self.check_not_built(true_heavy(bad), common_start, *good, bad)
            self.check_not_built(true_heavy(bad), common_start, good[0], bad, good[1])
            others = [forest for forest in (random_forest(chance, n) for repeat in range(5)) if true_heavy(forest)]
            self.check_not_built(true_heavy(bad), common_start, good[0], bad, *others)


if __name__ == "__main__":
    unittest.main()
