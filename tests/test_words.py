"""[2], [40]: names and kept words."""

from unittest import TestCase

from alongall.words import KEPT, is_name
from tests.odd import Strange, odd_values


class Words(TestCase):
    def test_kept_words(self):
        told = "ahead all apart bare both dense down either finite first last next not one same scattered some sub well"
        self.assertEqual(KEPT, tuple(told.split()))
        self.assertEqual(KEPT, tuple(sorted(KEPT)))

    def test_names(self):
        for name in ("x", "a", "z", "in", "none", "letter", "abcdefgh", "zzzzzzzz", "on", "mix", "many", "firsts"):
            self.assertIs(is_name(name), True, name)

    def test_kept_words_are_no_names(self):
        for word in KEPT:
            self.assertIs(is_name(word), False, word)

    def test_no_names(self):
        for thing in ("", "abcdefghi", "X", "xY", "x1", "x ", " x", "x_", "\u00e4", "\u0131", "x\n", "a" * 100000):
            self.assertIs(is_name(thing), False, thing)

    def test_any_value(self):
        for thing in odd_values() + [("x",), ["x"], b"x", Strange()]:
            self.assertIs(is_name(thing), False)

    def test_by_name(self):
        self.assertTrue(is_name(thing="x"))
