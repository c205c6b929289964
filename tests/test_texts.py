"""[41]: texts of formulas."""

from random import Random
from unittest import TestCase

from alongall.errors import BadFormula, BadText
from alongall.formulas import is_long
from alongall.texts import formula_of, text_of
from tests.beginnings import KEPT, formula_length
from tests.formulas import atoms, many_formulas
from tests.odd import odd_values

PAIRS = (
    (("sub", "x", "y"), "x in y"), (("ahead", "x", "y"), "x < y"), (("one", "x"), "one x"), (("not", ("one", "x")), "!one x"),
    (("both", ("one", "x"), ("one", "y")), "(one x & one y)"), (("either", ("one", "x"), ("one", "y")), "(one x | one y)"),
    (("some", "x", ("one", "x")), "some x: one x"), (("all", "x", ("one", "x")), "all x: one x"),
    (("bare", "x"), "bare x"), (("same", "x", "y"), "same x y"), (("apart", "x", "y"), "apart x y"),
    (("first", "x", "y"), "first x y"), (("last", "x", "y"), "last x y"), (("next", "x", "x"), "next x x"),
    (("down", "x"), "down x"), (("dense", "x"), "dense x"), (("finite", "x"), "finite x"), (("well", "x"), "well x"),
    (("scattered", "x"), "scattered x"), (("sub", "in", "in"), "in in in"), (("ahead", "in", "i"), "in < i"),
    (("sub", "scattere", "somewher"), "scattere in somewher"), (("ahead", "ones", "alls"), "ones < alls"),
    (("some", "x", ("some", "x", ("not", ("not", ("sub", "x", "y"))))), "some x: some x: !!x in y"),
    (("both", ("both", ("one", "a"), ("one", "b")), ("not", ("either", ("one", "c"), ("bare", "b")))),
     "((one a & one b) & !(one c | bare b))"),
    (("not", ("some", "x", ("both", ("one", "x"), ("one", "y")))), "!some x: (one x & one y)"),
    (("sub", "abcdefgh", "z"), "abcdefgh in z"), (("one", "somes"), "one somes"), (("some", "so", ("one", "s")), "some so: one s"),
)


class Texts(TestCase):
    def at(self, text):
        """What BadText tells of a text, None if it is a text."""
        try:
            formula_of(text)
        except BadText as wrong:
            return wrong.at
        except BadFormula:
            pass
        return None

    def test_by_hand(self):
        for formula, text in PAIRS:
            self.assertEqual(text_of(formula), text)
            self.assertEqual(formula_of(text), formula)

    def test_there_and_back(self):
        many = 0
        for formula in many_formulas(70, ("x", "y", "in", "someone"), 6, 300) + atoms(("a", "zz")):
            if is_long(formula):
                many += 1
                self.assertEqual(formula_of(text_of(formula)), formula)
        self.assertGreater(many, 200)

    def test_no_other_text(self):
        for _, text in PAIRS:
            for at in range(len(text) + 1):
                for other in (text[:at] + " " + text[at:], text[:at] + text[at + 1:], text[:at] + "a" + text[at:]):
                    try:
                        self.assertEqual(text_of(formula_of(other)), other)
                    except BadText as wrong:
                        self.assertEqual(wrong.at, formula_length(other))
                    except BadFormula:
                        self.assertIsNone(formula_length(other))

    def test_lengths_by_hand(self):
        for text, at in (
            ("", 0), (" ", 0), ("x", 1), ("x ", 2), ("x i", 3), ("x in", 4), ("x in ", 5), ("x in  y", 5), ("x in y ", 6),
            ("x  in y", 2), (" x in y", 0), ("xin y", 4), ("x in Y", 5), ("X in y", 0), ("x <", 3), ("x < ", 4), ("x <y", 3),
            ("x> y", 1), ("x > y", 2), ("one", 3), ("one ", 4), ("one x y", 5), ("one  x", 4), ("one all", 7), ("one all ", 7),
            ("x in all", 8), ("x in all)", 8), ("all in x", 6), ("all x in y", 5), ("all x : one x", 5), ("all x:one x", 6),
            ("all x:  one x", 7), ("all all: one x", 7), ("ahead in x", 5), ("not x", 3), ("both", 4), ("sub in x", 3),
            ("aheadx in x", None), ("sub", 3), ("!", 1), ("! one x", 1), ("!!", 2), ("(", 1), ("(one x", 6), ("(one x)", 6),
            ("(one x ", 7), ("(one x &", 8), ("(one x & one y", 14), ("(one x & one y))", 15), ("(one x && one y)", 8),
            ("(one x and one y)", 7), ("((one x & one y)", 16), ("scattered", 9), ("scattere", 8), ("scatteree", 8),
            ("scatteredx in y", 9), ("scattered in x", 12), ("scattere in x", None), ("scattere < ", 11), ("scattered ", 10),
            ("scattered x y", 11), ("abcdefghi in x", 8), ("x in abcdefghi", 13), ("x in abcdefgh", None), ("abcdefgh", 8),
            ("abcdefgh ", 9), ("one abcdefghi", 12), ("some abcdefghi: one x", 13), ("x1 in y", 1), ("x_ in y", 1), ("x\tin y", 1),
            ("x in y\n", 6), ("\n", 0), ("x in y & x in y", 6), ("same x", 6), ("same x ", 7), ("same x y z", 8), ("same xy", 7),
            ("bare x y", 6), ("first x,y", 7), ("none", 4), ("mix", 3), ("some x: ", 8), ("some x: y", 9), ("some", 4), ("some ", 5),
            ("some:", 4), ("somex:", 5), ("x in some", 9), ("x in somebody", None), ("apart x in y", 10),
            ("x in \u00e9", 5), ("\u00e9", 0), ("x in y" + chr(0), 6), ("scattered scattered", 18), ("scattered scattere", None),
        ):
            self.assertEqual(self.at(text), at, text)
            self.assertEqual(formula_length(text), at, text)

    def test_lengths_beside_all_ways(self):
        random = Random(71)
        signs = "x y in one some all:(&|)! <scatedbrwlfnmphgo"
        for formula in many_formulas(72, ("x", "in", "alloth", "onexxxxx"), 5, 120):
            text = text_of(formula) if is_long(formula) else "some x: x in y"
            for _ in range(3):
                at = random.randrange(len(text) + 1)
                sign = random.choice(signs)
                for other in (text[:at], text[:at] + sign + text[at:], text[:at] + sign + text[at + 1:], text[:at] + text[at + 1:]):
                    self.assertEqual(self.at(other), formula_length(other), other)

    def test_kept_words_and_their_beginnings(self):
        for word in KEPT:
            for end in range(1, len(word) + 1):
                for form in ("{}", "{} ", "{} in x", "{} x", "{} x y", "x in {}", "one {}", "some {}: one x", "{}x < y", "{} < y"):
                    text = form.format(word[:end])
                    self.assertEqual(self.at(text), formula_length(text), text)

    def test_sixty_nodes_and_more(self):
        self.assertEqual(formula_of("!" * 59 + "one x"), formula_of("!" * 59 + "one x"))
        for text, at in (
            ("!" * 59 + "one x", None), ("!" * 60 + "one x", 59), ("!" * 100000, 59), ("!" * 59 + "(", 59), ("!" * 58 + "(", 58),
            ("!" * 57 + "(one x & one y)", None), ("!" * 57 + "(one x & !one y)", 66), ("!" * 59 + "some x: one x", 63),
            ("!" * 59 + "some", 63), ("!" * 59 + "somex", 64), ("!" * 59 + "somex in y", None), ("!" * 59 + "all x: one x", 62),
            ("!" * 58 + "all x: one x", None), ("!" * 59 + "scattered x", None), ("(" * 100000, 29), ("(" * 30, 29),
            ("!" * 59 + "same x y", None), ("some x: " * 59 + "one x", None), ("some x: " * 60 + "one x", 8 * 59 + 4),
            ("a" * 100000, 8), ("one x" + " " * 100000, 5), ("(one x & " * 29 + "one x" + ")" * 29, None),
            ("(one x & " * 29 + "!one x" + ")" * 29, None), ("(one x & " * 29 + "!!one x" + ")" * 29, 9 * 29 + 1), ("(one x & " * 30 + "one x" + ")" * 30, 9 * 29),
            ("(" * 29 + "one x" + " & one x)" * 29, None), ("(" * 28 + "one x" + " & one x)" * 27 + " & !", 28 + 5 + 27 * 9 + 4),
        ):
            self.assertEqual(self.at(text), at, text[:80])
            if len(text) < 1000:
                self.assertEqual(formula_length(text), at, text)

    def test_four_free_names(self):
        for text in (
            "((one a & one b) & (one c & one d))", "some a: ((one a & one b) & (one c & one d))",
            "!some b: (a in b & c in d)", "(same a b | next c d)", "some a: some b: some c: (same a b | next c d)",
        ):
            self.assertRaises(BadFormula, formula_of, text)
        self.assertEqual(formula_of("(some a: (one a & one b) & (one c & one d))")[0], "both")
        # Ahead of that the text must be one.
        self.assertRaises(BadText, formula_of, "((one a & one b) & (one c & one d)")

    def test_no_string(self):
        for thing in odd_values() + [("one", "x"), ["one x"]]:
            if isinstance(thing, str):
                continue
            with self.assertRaises(BadText) as caught:
                formula_of(thing)
            self.assertEqual(caught.exception.at, 0)

    def test_no_formula(self):
        four = ("both", ("sub", "a", "b"), ("sub", "c", "d"))
        for thing in odd_values() + [four, ("one", "all"), ("not",), ["one", "x"], "one x", ("one", "x", "y")]:
            self.assertRaises(BadFormula, text_of, thing)
        self.assertEqual(text_of(formula=formula_of(text="one x")), "one x")
