"""Tests of [1] to [3] over the whole program: what holds of several modules together."""

import unittest
from random import Random

from linkforests.builds import (
    certificate, certificate_holds, heavy_children, is_built, joins_of, possible_joins, run_joins,
)
from linkforests.depths import depths, vertex_heights
from linkforests.forests import renamed, single
from linkforests.growth import growth_certificate, growth_holds, grows_from, obstacles
from linkforests.histories import (
    count_histories, first_history, histories_of, history_at, history_index, last_history,
)
from linkforests.joiners import CountedJoiner, Joiner
from linkforests.orders import count_rest, next_vertices
from linkforests.ranks import (
    count_rank_histories, gaps, heights, is_rank_history, is_ranked, rank_certificate, rank_certificate_holds,
    run_rank_joins,
)
from linkforests.shells import Shell
from linkforests.texts import forest_text, parse_certificate, parse_forest, parse_vertices, vertices_text
from tests.support import (
    JoinerCase, any_pairs, built_forests, drawn_action, large_forests, path_above, random_history, replayed,
    sample_forests, shaped_forests, true_action, true_weights,
)


def named_forests():
    """Returns triples of a forest, new names for its vertices, and the forest with these names."""
    chance = Random(1)
    rows = []
    for forest in large_forests()[::3] + list(built_forests()[::2]):
        names = tuple(chance.sample(range(len(forest)), len(forest)))
        rows.append((forest, names, renamed(forest, names)))
    return rows


class CertificatesTest(JoinerCase):
    def test_exactly_one_kind_exists(self):
        for forest in sample_forests() + list(built_forests()):
            held = [("heavy", v) for v in range(len(forest)) if certificate_holds(forest, ("heavy", v))]
            self.assertEqual(held == [], count_histories(forest) > 0)
            self.assertEqual(held == [], is_built(forest))
            self.assertEqual(certificate(forest)[0], "heavy" if held else "history")
            self.assertIs(certificate_holds(forest, certificate(forest)), True)

    def test_exactly_one_kind_exists_for_joins_by_rank(self):
        for forest in sample_forests():
            self.assertEqual(gaps(forest) == (), count_rank_histories(forest) > 0)
            self.assertEqual(rank_certificate(forest)[0], "history" if is_ranked(forest) else "gap")

    def test_what_is_accepted_is_correct(self):
        for forest in sample_forests():
            for found, run in ((certificate(forest), run_joins), (rank_certificate(forest), run_rank_joins)):
                if found[0] == "history":
                    self.same(run(len(forest), joins_of(forest, found[1])), forest)

    def test_growth(self):
        for one, other in any_pairs():
            found = growth_certificate(one, other)
            self.assertIs(growth_holds(one, other, found), True)
            self.assertIs(grows_from(other, one), obstacles(one, other) == ())
            self.assertIs(found[0] == "growth", grows_from(other, one))

    def test_what_the_shell_answers_holds(self):
        shell = Shell(Joiner(1))
        for forest in sample_forests() + list(built_forests()):
            text = forest_text(forest)
            self.assertIs(certificate_holds(forest, parse_certificate(shell.execute("build " + text))), True)
            self.same(int(shell.execute("count " + text)), count_histories(forest))
            self.same(parse_forest(text), forest)
            if is_built(forest):
                self.same(parse_vertices(shell.execute("first " + text)), first_history(forest))


class HistoriesTest(JoinerCase):
    def test_possible_joins_stay_possible(self):
        chance = Random(2)
        for forest in built_forests():
            begun = ()
            history = random_history(chance, forest)
            for vertex in history:
                before = next_vertices(forest, begun)
                self.assertIn(vertex, before)
                begun += (vertex,)
                self.assertLessEqual(set(before) - {vertex}, set(next_vertices(forest, begun)))
                self.assertGreater(count_rest(forest, begun), 0)

    def test_each_history_has_an_index(self):
        for forest in shaped_forests(6):
            rows = histories_of(forest)
            self.same([history_index(forest, row) for row in rows], list(range(count_histories(forest))))
        for forest in built_forests()[::5]:
            many = count_histories(forest)
            self.same(history_at(forest, many - 1), last_history(forest))
            self.same(history_index(forest, history_at(forest, many // 2)), many // 2)

    def test_deep_vertices_and_high_ones(self):
        for forest in built_forests():
            sizes = true_weights(forest)
            for vertex in range(len(forest)):
                top = [vertex, *path_above(forest, vertex)][-1]
                self.assertGreaterEqual(sizes[top], 2 ** depths(forest)[vertex])
                self.assertGreaterEqual(sizes[vertex], 2 ** heights(forest)[vertex])
            self.same(heights(forest), vertex_heights(forest))


class NamesTest(JoinerCase):
    def test_joins_by_rank(self):
        for forest, names, other in named_forests():
            self.same([heights(other)[name] for name in names], list(heights(forest)))
            self.same(gaps(other), tuple(sorted((names[child], rank) for child, rank in gaps(forest))))
            self.same(count_rank_histories(other), count_rank_histories(forest))
            found = rank_certificate(forest)
            if found[0] == "gap":
                found = ("gap", names[found[1]], found[2])
            else:
                found = ("history", tuple(names[vertex] for vertex in found[1]))
                self.assertIs(is_rank_history(other, found[1]), True)
            self.assertIs(rank_certificate_holds(other, found), True)

    def test_joiners(self):
        chance = Random(3)
        for forest, names, other in named_forests():
            if is_built(forest):
                one, two = Joiner.of(forest), Joiner.of(other)
                for repeat in range(5):
                    low, high = chance.randrange(len(forest)), chance.randrange(len(forest))
                    if one.find(low) != one.find(high):
                        self.same(one.join(low, high), two.join(names[low], names[high]))
                    self.same(two.forest(), renamed(one.forest(), names))
                    self.same((two.trees, two.find(names[low])), (one.trees, names[one.find(low)]))
                    self.same(two.weight(names[high]), one.weight(high))
                self.same(two.joins(), tuple((names[child], names[parent]) for child, parent in one.joins()))


class RemainingActionsTest(JoinerCase):
    """A joiner after any actions and undos answers as a new one on which only the remaining actions were done."""

    def check_alike(self, one, other):
        self.same((one.forest(), one.joins(), one.actions()), (other.forest(), other.joins(), other.actions()))
        self.same((one.trees, len(one), one.bound), (other.trees, len(other), other.bound))
        self.same([one.forest(version=v) for v in range(len(one) + 1)],
                  [other.forest(version=v) for v in range(len(other) + 1)])
        for vertex in range(len(one.forest())):
            self.same((one.find(vertex), one.weight(vertex)), (other.find(vertex), other.weight(vertex)))
            self.same(list(one.walk(vertex)), list(other.walk(vertex)))
        self.assertTrue(one == other)

    def test_drawn_actions_and_undos(self):
        chance = Random(4)
        for seed, first in enumerate(built_forests()[::3]):
            kind = (Joiner, CountedJoiner)[seed % 2]
            joiner = kind.of(first)
            for turn in range(30):
                state = joiner.forest()
                action = drawn_action(chance, len(state))
                if chance.random() < 0.4 and len(joiner):
                    joiner.undo()
                elif type(true_action(state, action)[0]) is not str:
                    joiner.apply([action]) if turn % 2 else Shell.fed(joiner, " ".join(map(str, action)))
            fresh = kind.of(first)
            for action in joiner.actions():
                fresh.grow() if action == ("grow",) else fresh.join(*action[1:])
            self.check_alike(joiner, fresh)
            self.check_alike(joiner.copy(), fresh)
            self.same(joiner.forest(), replayed(first, joiner.actions())[0][-1])
            self.assertEqual(heavy_children(joiner.forest()), ())

    def test_joins_of_joiners_are_joins(self):
        chance = Random(5)
        for n in range(2, 25):
            joiner = Joiner(n)
            for turn in range(n):
                before = joiner.forest()
                one, other = chance.randrange(n), chance.randrange(n)
                if joiner.find(one) != joiner.find(other):
                    joiner.join(one, other)
                    self.assertIn(joiner.joins()[-1], possible_joins(before))
            self.same(run_joins(n, joiner.joins()), joiner.forest())
            history = tuple(child for child, parent in joiner.joins())
            self.assertIs(certificate_holds(joiner.forest(), ("history", history)), True)
            self.same(parse_vertices(vertices_text(history)), history)
            self.assertIs(grows_from(joiner.forest(), single(n)), True)


if __name__ == "__main__":
    unittest.main()
