"""The shell: commands in text form on a joiner."""

from linkforests.bounds import HISTORY
from linkforests.builds import certificate, is_built
from linkforests.errors import BadText, Busy, NothingToUndo, NoVertex, SameTree, TooManyActions
from linkforests.histories import count_histories, first_history
from linkforests.texts import certificate_text, forest_text, is_number_text, parse_forest, vertices_text

UNKNOWN = "unknown command"
DIGITS = 13


def first_text(forest):
    """Returns the text of the first history of the forest, or none."""
    return vertices_text(first_history(forest)) if is_built(forest) else "none"


def forest_answer(word, text):
    """Returns the answer to a command about the forest with this text."""
    try:
        forest = parse_forest(text)
    except BadText:
        return UNKNOWN
    if word == "build":
        return certificate_text(certificate(forest))
    if word == "count":
        return str(count_histories(forest))
    return first_text(forest)


class Shell:
    """Answers lines of text by what a joiner does, and keeps the last ones."""

    WORDS = ("join", "undo", "forest", "find", "weight", "build", "count", "first")

    def __init__(self, joiner):
        self.joiner = joiner
        self.told = ()

    @classmethod
    def fed(cls, joiner, *lines):
        """Returns a shell on this joiner that has executed all these lines."""
        shell = cls(joiner)
        for line in lines:
            shell.execute(line)
        return shell

    @property
    def last(self):
        """The last pair of a line and its answer, None before the first line."""
        return self.told[-1] if self.told else None

    def transcript(self):
        """Returns the tuple of the last pairs of a line and its answer."""
        return self.told

    def execute(self, value):
        """Returns the answer to a line, which may be any value."""
        line = value if isinstance(value, str) else None
        answer = UNKNOWN if line is None else self.answer(line)
        self.told = (self.told + ((line, answer),))[-HISTORY:]
        return answer

    def answer(self, line):
        """Returns the answer to a string."""
        word, space, rest = line.partition(" ")
        if word in ("build", "count", "first"):
            return forest_answer(word, rest)
        parts = line.split(" ")[1:]
        if word not in self.WORDS or not all([is_number_text(part, DIGITS) for part in parts]):
            return UNKNOWN
        return self.ask_safely(word, [int(part) for part in parts])

    def ask_safely(self, word, numbers):
        """Returns the answer of the joiner, or the name of the error that it raises."""
        try:
            return self.ask(word, numbers)
        except Busy:
            return "error Busy"
        except TooManyActions:
            return "error TooManyActions"
        except NoVertex:
            return "error NoVertex"
        except SameTree:
            return "error SameTree"
        except NothingToUndo:
            return "error NothingToUndo"

    def ask(self, word, numbers):
        """Returns the answer of the joiner to a word with so many numbers."""
        many = len(numbers)
        if word == "join" and many == 2:
            return f"ok {self.joiner.join(numbers[0], numbers[1])}"
        if word == "undo" and many == 0:
            return f"ok {self.joiner.undo()}"
        if word == "forest" and many == 0:
            return forest_text(self.joiner.forest())
        if word == "find" and many == 1:
            return str(self.joiner.find(numbers[0]))
        if word == "weight" and many == 1:
            return str(self.joiner.weight(numbers[0]))
        return UNKNOWN
