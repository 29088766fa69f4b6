"""Runs the sessions in tests/examples, which are the examples of the document."""

import unittest
from pathlib import Path

FOLDER = Path(__file__).parent / "examples"
PROMISES = {
    "forests": range(5, 14),
    "builds": range(16, 26),
    "histories": [*range(27, 39), *range(40, 43)],
    "orders": range(44, 56),
    "growth": [*range(58, 68), *range(69, 74), 75, 76],
    "depths": range(78, 87),
    "shapes": range(88, 102),
    "ranks": range(103, 111),
    "joiners": range(112, 122),
    "texts": range(123, 129),
    "shells": range(130, 133),
}


def shown_error(error):
    """Returns an error as the document writes it: its class, and its arguments if it has some."""
    kept = ", ".join(repr(part) for part in vars(error).values())
    return f"raises {type(error).__name__}" + (f"({kept})" if kept else "")


def outcome(code, names):
    """Returns what the document prints for this expression."""
    try:
        return repr(eval(code, names))
    except ValueError as error:
        return shown_error(error)


def blocks_of(path):
    """Returns the blocks of a file that blank lines separate."""
    return [block.split("\n") for block in path.read_text().strip("\n").split("\n\n")]


def sessions_of(path):
    """Returns pairs of a promise and a session that belongs to it."""
    sessions = []
    for block in blocks_of(path):
        if block[0].startswith("["):
            promise = int(block[0].strip("[]"))
        else:
            sessions.append((promise, block))
    return sessions


class ExamplesTest(unittest.TestCase):
    def run_session(self, lines):
        names = {}
        self.assertFalse(lines[-1].startswith(">>> "))
        for at, line in enumerate(lines):
            if not line.startswith(">>> "):
                self.assertEqual(outcome(lines[at - 1][4:], names), line)
            elif lines[at + 1].startswith(">>> "):
                exec(line[4:], names)

    def test_sessions(self):
        for path in sorted(FOLDER.glob("*.txt")):
            for promise, lines in sessions_of(path):
                with self.subTest(module=path.stem, promise=promise):
                    self.run_session(lines)

    def test_each_promise_has_its_example(self):
        found = {path.stem: {promise for promise, lines in sessions_of(path)} for path in FOLDER.glob("*.txt")}
        self.assertEqual(found, {module: set(promises) for module, promises in PROMISES.items()})


if __name__ == "__main__":
    unittest.main()
