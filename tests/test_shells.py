"""Tests of [129] to [132]: the shell."""

import re
import unittest
from random import Random

from linkforests.builds import certificate_holds, heavy_children
from linkforests.forests import is_forest, single
from linkforests.histories import count_histories, first_history
from linkforests.joiners import CountedJoiner, Joiner
from linkforests.shells import Shell
from linkforests.texts import forest_text, parse_certificate
from tests.support import (
    MANY_KINDS, JoinerCase, built_forests, large_forests, listed_histories, nested, replayed, shaped_forests,
    small_forests, tops_of, true_action,
)

WORDS = ("join", "undo", "forest", "find", "weight", "build", "count", "first")
NUMBERS = ("0", "1", "2", "3", "5", "11", "23", "24", "25", "9999999999999", "1000000000000")
NO_NUMBERS = (
    "", "00", "01", "-1", "+1", "1.0", "a", "none", "True", "\u0663", "\u00b2", "1\n", "\n1", "1,", "9" * 14,
    "1" + "0" * 13, "9" * 2500, "0" * 2500,
)
UNKNOWN = "unknown command"
FORESTS = ("build", "count", "first")


def wanted_words(word, parts):
    """Returns whether a command has arguments as described; parts are those after the word."""
    counts = {"join": 2, "undo": 0, "forest": 0, "find": 1, "weight": 1}
    if word in FORESTS:
        numbers = all(re.fullmatch("0|[1-9][0-9]?", part, re.ASCII) for part in parts)
        return numbers and is_forest(tuple(int(part) for part in parts))
    numbers = all(re.fullmatch("0|[1-9][0-9]{0,12}", part, re.ASCII) for part in parts)
    return counts.get(word) == len(parts) and numbers


class ShellCase(JoinerCase):
    def play(self, shell, joiner, first, actions, line):
        """Executes a line on a shell, changes the list of the actions in effect, and checks the answer."""
        before = (tuple(actions), joiner.bound)
        answer = self.call(shell.execute, line)
        self.assertIs(type(answer), str)
        parts = line.split(" ") if type(line) is str else [""]
        if not wanted_words(parts[0], parts[1:]):
            self.same(answer, UNKNOWN, line)
        elif parts[0] in FORESTS:
            self.check_forest(parts[0], tuple(int(part) for part in parts[1:]), answer)
        else:
            self.check_state(joiner, first, actions, parts, answer)
        self.same(shell.last, (line if type(line) is str else None, answer))
        self.check_joiner(joiner, first, actions, before[1])
        return answer

    def check_state(self, joiner, first, actions, parts, answer):
        forest = replayed(first, actions)[0][-1]
        numbers = [int(part) for part in parts[1:]]
        if parts[0] == "forest":
            self.same(answer, forest_text(forest))
        elif parts[0] == "undo":
            self.same(answer, f"ok {len(actions) - 1}" if actions else "error NothingToUndo")
            del actions[-1:]
        elif parts[0] == "join":
            found = true_action(forest, ("join", *numbers))
            if len(actions) >= joiner.bound:
                self.same(answer, "error TooManyActions")
            elif type(found[0]) is str:
                self.same(answer, f"error {found[0]}")
            else:
                actions.append(("join", *numbers))
                self.same(answer, f"ok {len(actions)}")
        elif numbers[0] >= len(forest):
            self.same(answer, "error NoVertex")
        else:
            tops = tops_of(forest)
            top = tops[numbers[0]]
            self.same(answer, str(top if parts[0] == "find" else tops.count(top)))

    def check_forest(self, word, forest, answer):
        heavy = heavy_children(forest)
        if word == "build":
            found = parse_certificate(answer)
            self.assertIs(certificate_holds(forest, found), True)
            self.assertEqual(found[0], "heavy" if heavy else "history")
        elif word == "count":
            self.same(answer, str(count_histories(forest)))
        elif heavy or set(forest) == set(range(len(forest))):
            self.same(answer, "none")
        else:
            self.same(answer, " ".join(str(vertex) for vertex in first_history(forest)))


def drawn_line(chance, n):
    """Returns a line: a command with right or with changed arguments, or a value that is no string."""
    word = chance.choice(WORDS + ("join",) * 6 + ("grow", "Join", "", "quit", "undo\n", " join"))
    if word in FORESTS:
        parts = forest_text(chance.choice(small_forests() + large_forests())).split(" ")
    else:
        size = {"join": 2, "find": 1, "weight": 1}.get(word, 0)
        parts = [chance.choice(NUMBERS) if chance.random() < 0.2 else str(chance.randrange(n)) for k in range(size)]
    turn = chance.randrange(12)
    if turn == 0:
        parts.append(chance.choice(NUMBERS))
    elif turn == 1:
        parts = parts[:-1]
    elif turn == 2 and parts:
        parts[chance.randrange(len(parts))] = chance.choice(NO_NUMBERS)
    line = " ".join([word, *parts])
    if turn == 3:
        return chance.choice((line + " ", " " + line, line.replace(" ", "  "), line + "\n", "\n" + line, line.upper()))
    if turn == 4:
        return chance.choice(MANY_KINDS + (nested(60), [line], (line,), {"line": line}, line.encode()))
    return line


class TurnsTest(ShellCase):
    def run_turns(self, seed, joiner, turns):
        chance = Random(seed)
        shell, first, actions, told = Shell(joiner), joiner.forest(), [], []
        for turn in range(turns):
            line = drawn_line(chance, len(first))
            answer = self.play(shell, joiner, first, actions, line)
            told.append((line if type(line) is str else None, answer))
            self.same(shell.transcript(), tuple(told[-30:]))

    def test_joiners_of_single_vertices(self):
        for n in range(1, 25):
            self.run_turns(n, Joiner(n), 50)
            self.run_turns(50 + n, CountedJoiner(n, bound=n // 3), 40)

    def test_joiners_of_built_forests(self):
        for seed, forest in enumerate(built_forests()[::6]):
            self.run_turns(100 + seed, Joiner.of(forest), 20)


class CommandTest(ShellCase):
    def answers(self, joiner, *lines):
        shell = Shell(joiner)
        return [self.call(shell.execute, line) for line in lines]

    def test_numbers(self):
        for word in ("find", "weight"):
            for part in NUMBERS:
                wanted = ("0" if word == "find" else "3") if int(part) < 3 else "error NoVertex"
                self.same(self.answers(Joiner.of((0, 0, 0)), f"{word} {part}"), [wanted])
            for part in NO_NUMBERS:
                self.same(self.answers(Joiner(3), f"{word} {part}"), [UNKNOWN])
        for part in NO_NUMBERS:
            self.same(self.answers(Joiner(3), f"join {part} 0", f"join 0 {part}", "forest"), [UNKNOWN] * 2 + ["0 1 2"])

    def test_numbers_of_13_and_of_14_digits(self):
        self.same(self.answers(Joiner(3), "find " + "9" * 13, "find " + "9" * 14), ["error NoVertex", UNKNOWN])
        self.same(self.answers(Joiner(3), "join 0 " + "1" * 13, "join 0 " + "1" * 14), ["error NoVertex", UNKNOWN])
        self.same(self.answers(Joiner(3), "weight 1" + "0" * 12, "weight 1" + "0" * 13), ["error NoVertex", UNKNOWN])

    def test_all_words_without_and_with_arguments(self):
        counts = {"join": (2,), "undo": (0,), "forest": (0,), "find": (1,), "weight": (1,)}
        for word in WORDS:
            for size in range(5):
                line = " ".join([word] + ["0"] * size)
                known = size in counts.get(word, range(1, 5))
                self.assertEqual(self.answers(Joiner(3), line) != [UNKNOWN], known, line)

    def test_lines_that_are_no_commands(self):
        for line in MANY_KINDS + ("", " ", "join", "join 0", "join 0 1 2", "join 0,1", "join  0 1", "join 0  1",
                                  "join 0 1 ", " join 0 1", "JOIN 0 1", "undo 1", "undo ", "forest 0", "forests",
                                  "grow", "copy", "build", "build ", "build 1 0", "build 0 0 x", "count 0 5",
                                  "count  0", "first 0 0\n", "first\n0", "join\t0\t1", "exit", "x" * 3000, nested(60)):
            joiner = Joiner(3)
            self.same(self.answers(joiner, line), [UNKNOWN])
            self.check_joiner(joiner, single(3), [], 60)

    def test_forests(self):
        shell = Shell(Joiner(1))
        for forest in small_forests() + large_forests() + list(built_forests()):
            for word in FORESTS:
                line = f"{word} {forest_text(forest)}"
                self.check_forest(word, forest, self.call(shell.execute, line))

    def test_forests_of_listed_histories(self):
        for forest in shaped_forests(6):
            rows = listed_histories(forest)
            text = " ".join(str(vertex) for vertex in rows[0]) if rows else ""
            answers = self.answers(Joiner(1), "count " + forest_text(forest), "first " + forest_text(forest))
            self.same(answers, [str(len(rows)), text or "none"])

    def test_great_forests(self):
        star = " 0" * 24
        numbers = " ".join(str(vertex) for vertex in range(1, 24))
        wanted = ["25852016738884976640000", numbers, UNKNOWN]
        self.same(self.answers(Joiner(1), "count" + star, "first" + star, "first" + star + " 0"), wanted)

    def test_errors(self):
        joiner = Joiner(4, bound=1)
        lines = ("join 4 0", "join 0 4", "join 2 2", "undo", "join 1 0", "join 0 9", "join 2 3", "find 4", "weight 7")
        wanted = ["error NoVertex", "error NoVertex", "error SameTree", "error NothingToUndo", "ok 1",
                  "error TooManyActions", "error TooManyActions", "error NoVertex", "error NoVertex"]
        self.same(self.answers(joiner, *lines), wanted)
        self.check_joiner(joiner, single(4), [("join", 1, 0)], 1)

    def test_undo_takes_back_other_actions_too(self):
        joiner = Joiner(2)
        joiner.apply([("grow",), ("join", 2, 0)])
        self.same(self.answers(joiner, "forest", "undo", "forest", "undo", "forest", "undo"),
                  ["2 1 2", "ok 1", "0 1 2", "ok 0", "0 1", "error NothingToUndo"])

    def test_find_counts_steps(self):
        joiner = CountedJoiner.of((0, 0, 0, 2))
        self.answers(joiner, "find 3", "weight 3", "find 9", "forest")
        self.same(joiner.steps, 2)

    def test_a_busy_joiner(self):
        joiner = Joiner(4)
        shell, answers = Shell(joiner), []

        def on_step(given):
            lines = ("join 2 3", "join 9 9", "undo", "forest", "find 1", "weight 1", "find 9", "count 0 0", "undo 1")
            answers.append([shell.execute(line) for line in lines])

        joiner.apply([("join", 0, 1), ("join", 2, 1)], on_step=on_step)
        busy = ["error Busy"] * 3
        self.same(answers, [busy + ["0 0 2 3", "0", "2", "error NoVertex", "1", UNKNOWN],
                            busy + ["0 0 0 3", "0", "3", "error NoVertex", "1", UNKNOWN]])
        self.same(shell.execute("undo"), "ok 1")

    def test_two_shells_on_one_joiner(self):
        joiner = Joiner(3)
        one, other = Shell(joiner), Shell(joiner)
        self.same([one.execute("join 0 1"), other.execute("forest"), other.execute("undo")], ["ok 1", "0 0 2", "ok 0"])
        self.same(one.execute("forest"), "0 1 2")
        self.same(one.transcript(), (("join 0 1", "ok 1"), ("forest", "0 1 2")))
        self.same(other.transcript(), (("forest", "0 0 2"), ("undo", "ok 0")))


class TranscriptTest(ShellCase):
    def test_words(self):
        self.same(Shell.WORDS, WORDS)
        self.same(Shell(Joiner(1)).WORDS, WORDS)

    def test_more_than_thirty_lines(self):
        shell, told = Shell(Joiner(2)), []
        self.same((shell.transcript(), shell.last), ((), None))
        for count in range(75):
            line = (f"find {count}", count, "forest", [count])[count % 4]
            told.append((line if count % 2 == 0 else None, shell.execute(line)))
            self.same(shell.transcript(), tuple(told[-30:]))
            self.same(shell.last, told[-1])

    def test_what_was_returned_does_not_change(self):
        shell = Shell(Joiner(2))
        shell.execute("forest")
        kept = shell.transcript()
        shell.execute("join 0 1")
        self.same(kept, (("forest", "0 1"),))

    def test_last_cannot_be_assigned(self):
        shell = Shell(Joiner(2))
        for repeat in range(2):
            before = shell.last
            with self.assertRaises(AttributeError):
                shell.last = ("forest", "0 1")
            self.same(shell.last, before)
            shell.execute("find 1")

    def test_the_very_line(self):
        line = "find" + " 1"
        shell = Shell(Joiner(2))
        shell.execute(line)
        self.same(shell.last, ("find 1", "1"))
        shell.execute("")
        self.same(shell.last, ("", UNKNOWN))


class FedTest(ShellCase):
    def test_lines(self):
        joiner = Joiner(4)
        shell = self.call(Shell.fed, joiner, "join 0 1", None, "join 2 3", ["undo"], "undo", "nothing")
        self.assertIs(type(shell), Shell)
        wanted = (("join 0 1", "ok 1"), (None, UNKNOWN), ("join 2 3", "ok 2"), (None, UNKNOWN), ("undo", "ok 1"),
                  ("nothing", UNKNOWN))
        self.same(shell.transcript(), wanted)
        self.check_joiner(joiner, single(4), [("join", 0, 1)], 60)
        self.same(shell.execute("join 0 1"), "error SameTree")

    def test_without_lines(self):
        joiner = Joiner(4)
        shell = Shell.fed(joiner)
        self.same((shell.transcript(), shell.last), ((), None))
        shell.execute("join 0 3")
        self.same(joiner.forest(), (0, 1, 2, 0))

    def test_many_lines(self):
        shell = Shell.fed(Joiner(4), *[f"find {count}" for count in range(50)])
        self.same(shell.transcript()[0], ("find 20", "error NoVertex"))
        self.assertEqual(len(shell.transcript()), 30)

    def test_the_same_as_line_by_line(self):
        chance = Random(132)
        for n in range(1, 25):
            lines = [drawn_line(chance, n) for repeat in range(25)]
            one, other = Joiner(n), Joiner(n)
            shell = Shell(other)
            for line in lines:
                shell.execute(line)
            self.same(Shell.fed(one, *lines).transcript(), shell.transcript())
            self.assertTrue(one == other)

    def test_subclasses(self):
        class Other(Shell):
            pass
        self.assertIs(type(Other.fed(Joiner(1), "forest")), Other)


if __name__ == "__main__":
    unittest.main()
