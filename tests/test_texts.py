"""Tests of [122] to [128]: texts of forests, of tuples of vertices, and of certificates."""

import re
import unittest
from random import Random

from linkforests.builds import certificate
from linkforests.errors import BadText
from linkforests.forests import forest_error
from linkforests.texts import (
    certificate_text, forest_text, parse_certificate, parse_forest, parse_vertices, vertices_text,
)
from tests.support import MANY_KINDS, CallCase, built_forests, large_forests, nested, sample_forests, small_forests

STRANGE_PARTS = (
    "", " ", "00", "01", "007", "+1", "-1", "-0", "1.0", "1e0", "0x1", "1_0", "a", "none", "None", "1,", "(1)", "1\n",
    "\n1", "\n", "\t1", "24", "25", "99", "100", "9" * 14, "9" * 2500, "1" + "0" * 2500, "0" * 2500, "\u0663",
    "\u00b2", "\uff11", "\u0967", "1\u0663", "True", "history", "heavy", "x" * 3000,
)
NO_STRINGS = tuple(value for value in MANY_KINDS if type(value) is not str) + (nested(60), b"0 0", ["0"], ("0", "0"))


def is_true_number(part):
    """Returns whether part is the text of an integer from 0 to 23."""
    return re.fullmatch("[0-9]|1[0-9]|2[0-3]", part) is not None


def wrong_index(text, unique):
    """Returns the index of the first wrong part, or None."""
    parts = text.split(" ")
    for index, part in enumerate(parts):
        if index == 24 or not is_true_number(part) or unique and part in parts[:index]:
            return index
    return None


def drawn_rows():
    """Returns tuples of different vertices, none to all of them."""
    chance = Random(125)
    return [()] + [tuple(chance.sample(range(24), size)) for size in range(25) for repeat in range(4)]


def changed_texts(text):
    """Returns texts that differ from a text in a character or a part."""
    parts = text.split(" ")
    found = [text + " ", " " + text, text + "\n", text + " 0", text + " x", "", text.replace(" ", "  "), text + text]
    found += [text.replace(" ", "\t"), text.replace(" ", ","), text.upper(), " ".join(parts[::-1])]
    for index in range(len(parts)):
        for part in STRANGE_PARTS + ("0", "1", "23"):
            found.append(" ".join(parts[:index] + [part] + parts[index + 1:]))
        found.append(" ".join(parts[:index] + parts[index + 1:]))
        found.append(" ".join(parts[:index + 1] + parts[index:]))
    for index in range(len(text)):
        found += [text[:index] + text[index + 1:], text[:index] + " " + text[index:], text[:index] + "0" + text[index:]]
    return found


class TextCase(CallCase):
    def check_bad(self, index, function, value):
        self.same(self.refused(BadText, function, value).index, index, value)


class ForestTest(TextCase):
    def check(self, text):
        wanted = wrong_index(text, False)
        if wanted is None:
            parents = tuple(int(part) for part in text.split(" "))
            error = forest_error(parents)
            if error is None:
                self.same(self.call(parse_forest, text), parents)
                self.same(forest_text(parents), text)
                return True
            wanted = error[0]
        self.check_bad(wanted, parse_forest, text)
        return False

    def test_forests(self):
        for forest in sample_forests():
            text = self.call(forest_text, forest)
            self.same(text, " ".join(str(parent) for parent in forest))
            self.same(self.call(parse_forest, text), forest)

    def test_texts_changed(self):
        found = {True: 0, False: 0}
        for forest in small_forests()[::9] + large_forests()[::29]:
            for text in changed_texts(forest_text(forest)):
                found[self.check(text)] += 1
        self.assertGreater(min(found.values()), 200)

    def test_strange_parts(self):
        for part in STRANGE_PARTS:
            self.check(part)
            self.check("0 " + part)
            self.check(part + " 0")
            self.check("x " + part)

    def test_24_and_25_parts(self):
        self.assertTrue(self.check(" ".join(["0"] * 24)))
        self.check_bad(24, parse_forest, " ".join(["0"] * 25))
        self.check_bad(24, parse_forest, " ".join(["0"] * 24 + ["x"]))
        self.check_bad(24, parse_forest, " ".join(["0"] * 30))
        self.check_bad(23, parse_forest, " ".join(["0"] * 23 + ["x", "x"]))
        self.check_bad(24, parse_forest, " ".join(["1", "0"] * 13))
        self.check_bad(24, parse_forest, " ".join(["0"] * 1500))

    def test_what_forest_error_names(self):
        self.check_bad(0, parse_forest, "1")
        self.check_bad(1, parse_forest, "0 2")
        self.check_bad(0, parse_forest, "1 0")
        self.check_bad(1, parse_forest, "0 2 1")
        self.check_bad(2, parse_forest, "1 0 3")
        self.check_bad(2, parse_forest, "1 0 24")
        self.check_bad(0, parse_forest, "")

    def test_values_that_are_no_strings(self):
        for value in NO_STRINGS:
            self.check_bad(None, parse_forest, value)


class VerticesTest(TextCase):
    def check(self, text):
        wanted = wrong_index(text, True)
        if text == "none" or wanted is None:
            row = () if text == "none" else tuple(int(part) for part in text.split(" "))
            self.same(self.call(parse_vertices, text), row)
            self.same(vertices_text(row), text)
            return True
        self.check_bad(wanted, parse_vertices, text)
        return False

    def test_rows(self):
        for row in drawn_rows():
            text = self.call(vertices_text, row)
            self.same(text, " ".join(str(vertex) for vertex in row) if row else "none")
            self.same(self.call(parse_vertices, text), row)

    def test_rows_that_occur_twice_have_texts(self):
        self.same(vertices_text((1, 1)), "1 1")
        self.same(vertices_text((0,) * 24), " ".join("0" * 24))

    def test_texts_changed(self):
        found = {True: 0, False: 0}
        for row in drawn_rows()[::7]:
            for text in changed_texts(vertices_text(row)):
                found[self.check(text)] += 1
        self.assertGreater(min(found.values()), 200)

    def test_strange_parts(self):
        for part in STRANGE_PARTS:
            self.assertEqual(self.check(part), part == "none")
            self.assertFalse(self.check("0 " + part))
            self.assertFalse(self.check(part + " 0"))
            self.assertFalse(self.check("none " + part))
        self.check_bad(1, parse_vertices, "0 none")
        self.check_bad(0, parse_vertices, "none none")

    def test_25_parts(self):
        row = " ".join(str(vertex) for vertex in range(24))
        self.assertTrue(self.check(row))
        for part in ("0", "23", "24", "x", ""):
            self.check_bad(24, parse_vertices, row + " " + part)
        self.check_bad(3, parse_vertices, "5 6 7 5 " + row)

    def test_values_that_are_no_strings(self):
        for value in NO_STRINGS:
            self.check_bad(None, parse_vertices, value)


class CertificateTest(TextCase):
    def check(self, text):
        word, space, rest = text.partition(" ")
        if word not in ("history", "heavy"):
            self.check_bad(None, parse_certificate, text)
            return False
        if word == "history" and (rest == "none" or wrong_index(rest, True) is None):
            wanted = ("history", () if rest == "none" else tuple(int(part) for part in rest.split(" ")))
        elif word == "heavy" and is_true_number(rest):
            wanted = ("heavy", int(rest))
        else:
            self.check_bad(0, parse_certificate, text)
            return False
        self.same(self.call(parse_certificate, text), wanted)
        self.same(certificate_text(wanted), text)
        return True

    def test_certificates_of_forests(self):
        for forest in sample_forests() + list(built_forests()):
            found = certificate(forest)
            text = self.call(certificate_text, found)
            if found[0] == "heavy":
                self.same(text, f"heavy {found[1]}")
            else:
                self.same(text, "history " + vertices_text(found[1]))
            self.same(self.call(parse_certificate, text), found)

    def test_rows_and_vertices(self):
        for row in drawn_rows():
            self.assertTrue(self.check(self.call(certificate_text, ("history", row))))
        for vertex in range(24):
            self.assertTrue(self.check(self.call(certificate_text, ("heavy", vertex))))

    def test_texts_changed(self):
        found = {True: 0, False: 0}
        for row in drawn_rows()[::11]:
            for text in changed_texts(certificate_text(("history", row))):
                found[self.check(text)] += 1
        for vertex in (0, 7, 23):
            for text in changed_texts(certificate_text(("heavy", vertex))):
                found[self.check(text)] += 1
        self.assertGreater(min(found.values()), 200)

    def test_strange_parts(self):
        for part in STRANGE_PARTS:
            for text in (part, "history " + part, "heavy " + part, part + " 1", "history 1 " + part, "heavy 1 " + part):
                self.check(text)

    def test_words(self):
        for text in ("", " ", "history", "heavy", "history ", "heavy ", "History 1", "heavy none", "history none none",
                     " history 1", "historyx 1", "history\n1", "history1", "heavy\n", "none", "1", "heavy  1",
                     "history  1", "history none ", "heavy 1 ", "heavy 24", "history 24", "history 1 1"):
            self.assertFalse(self.check(text))
        self.check_bad(0, parse_certificate, "history")
        self.check_bad(0, parse_certificate, "heavy ")
        self.check_bad(None, parse_certificate, "history\n1")

    def test_values_that_are_no_strings(self):
        for value in NO_STRINGS + (("history", ()), ("heavy", 1)):
            self.check_bad(None, parse_certificate, value)


if __name__ == "__main__":
    unittest.main()
