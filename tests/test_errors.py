"""Tests of [133]: the errors."""

import unittest

from linkforests import errors
from linkforests.errors import LinkError
from tests.support import MANY_KINDS, nested

WITHOUT_ARGUMENT = (
    "BadBatch", "BadCount", "BadShape", "Busy", "NoBeginning", "NoHistory", "NothingToUndo", "SameTree",
    "SameVertex", "TooManyActions",
)
WITH_ARGUMENT = {
    "BadJoin": "index", "BadText": "index", "NoIndex": "index", "NoStart": "reason", "NoVersion": "version",
    "NoVertex": "value", "NotBuilt": "vertex", "Rejected": "index", "TooMany": "limit",
}
NAMES = WITHOUT_ARGUMENT + tuple(WITH_ARGUMENT)
VALUES = MANY_KINDS + (nested(60), int("9" * 40), -int("9" * 40), "x" * 3000, tuple(range(4000)))


def error_class(name):
    return getattr(errors, name)


class ErrorsTest(unittest.TestCase):
    def check_kind(self, error, name):
        self.assertIsInstance(error, LinkError)
        self.assertIsInstance(error, ValueError)
        self.assertEqual([other for other in NAMES if isinstance(error, error_class(other))], [name])

    def test_the_list_is_whole(self):
        self.assertEqual(len(NAMES), 19)
        classes = {name for name, thing in vars(errors).items() if isinstance(thing, type)}
        self.assertEqual(classes, {"LinkError", *NAMES})

    def test_each_is_a_direct_subclass_of_link_error(self):
        self.assertEqual(LinkError.__bases__, (ValueError,))
        for name in NAMES:
            with self.subTest(name=name):
                self.assertEqual(error_class(name).__bases__, (LinkError,))

    def test_errors_without_argument(self):
        for name in WITHOUT_ARGUMENT:
            with self.subTest(name=name):
                error = error_class(name)()
                self.check_kind(error, name)
                self.assertEqual(vars(error), {})

    def test_errors_keep_the_very_object(self):
        for name, attribute in WITH_ARGUMENT.items():
            for value in VALUES:
                with self.subTest(name=name, value=value):
                    error = error_class(name)(value)
                    self.check_kind(error, name)
                    self.assertEqual(list(vars(error)), [attribute])
                    self.assertIs(getattr(error, attribute), value)

    def test_errors_leave_the_object_as_it_was(self):
        for name, attribute in WITH_ARGUMENT.items():
            with self.subTest(name=name):
                value = [1, {"a": [2]}]
                error = error_class(name)(value)
                self.assertEqual(value, [1, {"a": [2]}])
                value.append(3)
                self.assertEqual(getattr(error, attribute), [1, {"a": [2]}, 3])

    def test_errors_need_their_argument(self):
        for name in WITH_ARGUMENT:
            with self.subTest(name=name), self.assertRaises(TypeError):
                error_class(name)()

    def test_errors_are_raised_and_caught(self):
        for name in NAMES:
            for catcher in (error_class(name), LinkError, ValueError):
                with self.subTest(name=name, catcher=catcher.__name__), self.assertRaises(catcher):
                    raise error_class(name)(*[7] * (name in WITH_ARGUMENT))

    def test_an_error_is_shown_as_it_was_created(self):
        self.assertEqual(repr(errors.NoIndex(5)), "NoIndex(5)")
        self.assertEqual(repr(errors.NoStart(("closed", 3))), "NoStart(('closed', 3))")
        self.assertEqual(repr(errors.BadCount()), "BadCount()")


if __name__ == "__main__":
    unittest.main()
