"""Tests of [2] and [3] for builds, histories and orders: what holds of several functions together."""

import unittest
from random import Random

from linkforests.builds import (
    after_join, certificate, certificate_holds, heavy_children, is_built, joins_of, possible_joins, run_joins,
    states_along,
)
from linkforests.forests import renamed
from linkforests.histories import (
    count_child_orders, count_histories, count_tree_histories, first_history, free_exchanges, history_at,
    history_index, history_path, history_path_holds, histories_of, is_history, last_history, next_history,
    weights_along,
)
from linkforests.orders import (
    always_before, count_rest, early_history, greatest_time, is_beginning, late_history, least_time, merged_beginning,
    next_vertices, order_certificate, order_holds, order_pairs, walk_beginnings,
)
from tests.support import (
    CallCase, after_each, built_forests, large_forests, listed_histories, lower_vertices, random_beginning,
    random_history, shaped_forests,
)


def named_forests():
    """Returns triples of a forest, new names for its vertices, and the forest with these names."""
    chance = Random(2)
    rows = []
    for forest in large_forests()[::2] + list(built_forests()):
        names = tuple(chance.sample(range(len(forest)), len(forest)))
        rows.append((forest, names, renamed(forest, names)))
    return rows


def called(names, row):
    """Returns the tuple of vertices, or of such tuples, with new names."""
    return tuple(called(names, item) if type(item) is tuple else names[item] for item in row)


class NamesTest(CallCase):
    """Renaming the vertices renames all results, and changes no number."""

    def test_forests(self):
        for forest, names, other in named_forests():
            self.same(possible_joins(other), tuple(sorted(called(names, possible_joins(forest)))))
            self.same(heavy_children(other), tuple(sorted(called(names, heavy_children(forest)))))
            self.same(is_built(other), is_built(forest))
            self.same(count_histories(other), count_histories(forest))
            for child, parent in possible_joins(forest):
                after = after_join(other, names[child], names[parent])
                self.same(after, renamed(after_join(forest, child, parent), names))

    def test_certificates(self):
        for forest, names, other in named_forests():
            word, part = certificate(forest)
            part = called(names, part) if word == "history" else names[part]
            self.assertIs(certificate_holds(other, (word, part)), True)

    def test_vertices(self):
        for forest, names, other in named_forests():
            for vertex, name in enumerate(names):
                for function in (count_child_orders, count_tree_histories):
                    self.same(function(other, name), function(forest, vertex))
                if is_built(forest) and forest[vertex] != vertex:
                    for function in (least_time, greatest_time):
                        self.same(function(other, name), function(forest, vertex))

    def test_histories(self):
        chance = Random(3)
        for forest, names, other in named_forests():
            if is_built(forest):
                history = random_history(chance, forest)
                self.assertIs(is_history(other, called(names, history)), True)
                self.same(joins_of(other, called(names, history)), called(names, joins_of(forest, history)))
                self.same(weights_along(other, called(names, history)), weights_along(forest, history))
                self.same(free_exchanges(other, called(names, history)), free_exchanges(forest, history))
                states = [renamed(state, names) for state in states_along(forest, history)]
                self.same(list(states_along(other, called(names, history))), states)

    def test_paths(self):
        chance = Random(4)
        for forest, names, other in named_forests()[::3]:
            if is_built(forest):
                first, second = random_history(chance, forest), random_history(chance, forest)
                path = called(names, history_path(forest, first, second))
                self.same(history_path(other, path[0], path[-1]), path)
                self.assertIs(history_path_holds(other, path[0], path[-1], path), True)

    def test_orders(self):
        for forest, names, other in named_forests():
            if is_built(forest):
                pairs = order_pairs(forest)
                self.same(order_pairs(other), tuple(sorted(called(names, pairs))))
                self.assertTrue(all(always_before(other, names[low], names[high]) for low, high in pairs))
                for low in lower_vertices(forest)[:3]:
                    for high in lower_vertices(forest)[3:6]:
                        word, part = order_certificate(forest, low, high)
                        part = called(names, part) if word == "after" else tuple(sorted(called(names, part)))
                        self.assertIs(order_holds(other, names[low], names[high], (word, part)), True)

    def test_beginnings(self):
        chance = Random(5)
        for forest, names, other in named_forests():
            if is_built(forest):
                one, two = (random_beginning(chance, forest, chance.randrange(len(forest))) for repeat in range(2))
                self.assertIs(is_beginning(other, called(names, one)), True)
                self.same(count_rest(other, called(names, one)), count_rest(forest, one))
                following = tuple(sorted(called(names, next_vertices(forest, one))))
                self.same(next_vertices(other, called(names, one)), following)
                merged = merged_beginning(other, called(names, one), called(names, two))
                self.same(merged, called(names, merged_beginning(forest, one, two)))

    def test_listings(self):
        chance = Random(6)
        for forest in shaped_forests(6):
            names = tuple(chance.sample(range(6), 6))
            self.same(histories_of(renamed(forest, names)), tuple(sorted(called(names, histories_of(forest)))))


class WaysTest(CallCase):
    def test_what_is_possible_stays_possible(self):
        chance = Random(7)
        for forest in built_forests():
            begun = ()
            while after_each(forest, begun):
                before = next_vertices(forest, begun)
                begun += (chance.choice(before),)
                self.assertLessEqual(set(before) - {begun[-1]}, set(next_vertices(forest, begun)))
            self.assertIs(is_history(forest, begun), True)

    def test_every_beginning_can_be_finished(self):
        chance = Random(8)
        for forest in built_forests():
            for repeat in range(4):
                begun = random_beginning(chance, forest, chance.randrange(len(forest)))
                for history in (first_history(forest, *begun), merged_beginning(forest, begun, complete=True)):
                    self.assertIs(is_history(forest, history), True)
                    self.same(history[:len(begun)], begun)
                self.assertGreater(count_rest(forest, begun), 0)

    def test_each_history_has_its_own_index(self):
        for forest in shaped_forests(7):
            found = [history_index(forest, history) for history in listed_histories(forest)]
            self.assertEqual(found, list(range(count_histories(forest))))

    def test_whatever_is_accepted_is_correct(self):
        for forest in large_forests():
            word, part = certificate(forest)
            self.assertEqual(word == "history", is_built(forest))
            if word == "history":
                self.same(run_joins(len(forest), joins_of(forest, part)), forest)


class EqualCallsTest(CallCase):
    def twice(self, function, *given, **named):
        self.same(self.call(function, *given, **named), self.call(function, *given, **named))

    def test_functions_of_a_forest(self):
        for forest in large_forests()[::3]:
            for function in (possible_joins, heavy_children, is_built, certificate, count_histories):
                self.twice(function, forest)
            self.twice(count_tree_histories, forest, 0)

    def test_functions_of_a_built_forest(self):
        for forest in built_forests()[::3]:
            for function in (first_history, last_history, order_pairs):
                self.twice(function, forest)
            for function in (least_time, early_history, late_history):
                for vertex in lower_vertices(forest)[:4]:
                    self.twice(function, forest, vertex)
            self.twice(next_history, forest, first_history(forest))
            self.twice(history_at, forest, count_histories(forest) // 2)
            self.twice(walk_beginnings, forest, steps=1)
            self.twice(merged_beginning, forest, first_history(forest)[:3], complete=True)
            for vertex in lower_vertices(forest)[1:]:
                self.twice(order_certificate, forest, lower_vertices(forest)[0], vertex)


if __name__ == "__main__":
    unittest.main()
