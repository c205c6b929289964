"""[40], [48]: formulas, long ones, sentences, shorts."""

from unittest import TestCase

from alongall.errors import BadFormula
from alongall.formulas import free_names, is_formula, is_long, is_sentence, is_short, nodes_in
from alongall.words import KEPT
from tests.odd import doubled, nested, odd_values, spoiled

ONE = ("one", "x")
ATOMS = (("sub", "x", "y"), ("ahead", "x", "y"), ("one", "x"), ("sub", "x", "x"), ("ahead", "in", "none"))
SHORTS = (
    ("bare", "x"), ("same", "x", "y"), ("apart", "x", "y"), ("first", "x", "y"), ("last", "x", "y"), ("next", "x", "y"),
    ("down", "x"), ("dense", "x"), ("finite", "x"), ("well", "x"), ("scattered", "x"),
)


def nots(many, formula):
    for _ in range(many):
        formula = ("not", formula)
    return formula


def boths(many, leaf=ONE):
    """A formula with many leaves, 2 * many - 1 nodes."""
    formula = leaf
    for _ in range(many - 1):
        formula = ("both", leaf, formula)
    return formula


class Formulas(TestCase):
    def test_atoms(self):
        for atom in ATOMS:
            self.assertIs(is_formula(atom), True)
            self.assertIs(is_long(atom), True)
            self.assertIs(is_short(atom), False)
            self.assertIs(is_sentence(atom), False)
            self.assertEqual(nodes_in(atom), 1)
            self.assertEqual(free_names(atom), tuple(sorted(set(atom[1:]))))

    def test_others(self):
        for formula, nodes, free in (
            (("not", ONE), 2, ("x",)), (("both", ("sub", "b", "a"), ONE), 3, ("a", "b", "x")),
            (("either", ONE, ONE), 3, ("x",)), (("some", "x", ONE), 2, ()), (("all", "y", ONE), 2, ("x",)),
            (("some", "x", ("sub", "x", "y")), 2, ("y",)), (("not", ("all", "z", ("not", ("sub", "x", "z")))), 4, ("x",)),
        ):
            self.assertIs(is_formula(formula), True)
            self.assertIs(is_long(formula), True)
            self.assertIs(is_sentence(formula), free == ())
            self.assertEqual(nodes_in(formula), nodes)
            self.assertEqual(free_names(formula), free)

    def test_wrong_shapes(self):
        for thing in (
            ("sub", "x"), ("sub", "x", "y", "z"), ("ahead", "x"), ("one",), ("one", "x", "y"), ("not",), ("not", ONE, ONE),
            ("both", ONE), ("both", ONE, ONE, ONE), ("either", ONE), ("some", "x"), ("some", ONE), ("some", ONE, "x"),
            ("all", "x", ONE, ONE), ("all", ("x",), ONE), ("one", ("x",)), ("one", None), ("some", "x", "x"), "x", (),
            ("none", "x"), ["one", "x"], ("not", ["one", "x"]), ("mark", "x"), ("both", ONE, None), ("some", None, ONE),
        ):
            for ask in (is_formula, is_long, is_sentence, is_short):
                self.assertIs(ask(thing), False, thing)

    def test_kept_words_are_no_names(self):
        for word in KEPT:
            for thing in (
                ("one", word), ("sub", "x", word), ("ahead", word, "x"), ("some", word, ONE), ("all", word, ONE), ("bare", word),
            ):
                self.assertIs(is_long(thing), False)
                self.assertIs(is_short(thing), False)
            self.assertIs(is_formula(("one", word + "s" if len(word) < 8 else "s")), True)

    def test_sixty_nodes(self):
        self.assertIs(is_formula(nots(59, ONE)), True)
        self.assertEqual(nodes_in(nots(59, ONE)), 60)
        self.assertIs(is_formula(nots(60, ONE)), False)
        self.assertIs(is_long(nots(60, ("well", "x"))), False)
        self.assertIs(is_long(nots(59, ("well", "x"))), True)
        self.assertIs(is_formula(boths(30)), True)
        self.assertEqual(nodes_in(boths(30)), 59)
        self.assertIs(is_formula(("some", "x", boths(30))), True)
        self.assertIs(is_sentence(("some", "x", boths(30))), True)
        self.assertIs(is_formula(("some", "x", ("not", boths(30)))), False)
        self.assertIs(is_sentence(("some", "x", ("not", boths(30)))), False)
        self.assertIs(is_formula(boths(31)), False)
        self.assertIs(is_long(("both", boths(15), boths(15, ("dense", "x")))), True)
        self.assertIs(is_long(("both", boths(15), boths(16, ("dense", "x")))), False)

    def test_free_names_in_each_part(self):
        three = ("both", ("sub", "x", "y"), ("one", "z"))
        four = ("both", three, ("one", "w"))
        self.assertIs(is_formula(three), True)
        self.assertEqual(free_names(three), ("x", "y", "z"))
        self.assertIs(is_formula(four), False)
        # Names that are bound further out count inside.
        self.assertIs(is_formula(("some", "w", four)), False)
        self.assertIs(is_formula(("some", "x", ("some", "y", four))), False)
        for thing in (("not", four), ("both", ONE, ("all", "w", four)), ("both", ("all", "w", four), boths(4))):
            self.assertIs(is_formula(thing), False)
            self.assertIs(is_long(thing), False)
        self.assertIs(is_formula(("both", ("some", "x", three), ("one", "w"))), True)
        self.assertEqual(free_names(("both", ("some", "x", three), ("one", "w"))), ("w", "y", "z"))
        self.assertIs(is_formula(("some", "w", ("both", three, ("all", "w", ("one", "w"))))), True)
        self.assertIs(is_long(("both", three, ("next", "x", "w"))), False)
        self.assertIs(is_long(("both", three, ("next", "x", "z"))), True)

    def test_bound_anew(self):
        formula = ("some", "x", ("both", ONE, ("all", "x", ("sub", "x", "y"))))
        self.assertEqual(free_names(formula), ("y",))
        self.assertEqual(free_names(("both", ONE, ("some", "x", ONE))), ("x",))
        self.assertEqual(free_names(("some", "x", ("some", "x", ONE))), ())
        self.assertEqual(free_names(("both", ("some", "x", ONE), ("some", "y", ("one", "y")))), ())

    def test_sentences(self):
        self.assertIs(is_sentence(("some", "x", ONE)), True)
        self.assertIs(is_sentence(("all", "x", ("well", "x"))), True)
        self.assertIs(is_sentence(("all", "x", ("next", "x", "y"))), False)
        self.assertIs(is_sentence(("all", "x", ("some", "y", ("next", "x", "y")))), True)
        self.assertIs(is_sentence(ONE), False)
        self.assertIs(is_sentence(("well", "x")), False)

    def test_any_value(self):
        for thing in odd_values() + [nested("not", 10 ** 5), doubled("both", ONE, 59), doubled("either", ("well", "x"), 99)]:
            for ask in (is_formula, is_long, is_sentence, is_short):
                self.assertIs(ask(thing), False)
            self.assertRaises(BadFormula, free_names, thing)
            self.assertRaises(BadFormula, nodes_in, thing)
        for formula in (("some", "x", ("both", ONE, ("not", ("sub", "x", "y")))), ("all", "y", ("next", "y", "y"))):
            for thing in spoiled(formula):
                for ask in (is_formula, is_long, is_sentence):
                    self.assertIs(ask(thing), False)
                self.assertRaises(BadFormula, free_names, thing)
                self.assertRaises(BadFormula, nodes_in, thing)

    def test_wide_values(self):
        self.assertIs(is_formula(("both",) + (ONE,) * 10 ** 5), False)
        self.assertIs(is_formula(("one",) + ("x",) * 10 ** 5), False)

    def test_by_name(self):
        self.assertTrue(is_formula(thing=ONE) and is_long(thing=ONE) and not is_sentence(thing=ONE))
        self.assertFalse(is_short(thing=ONE))
        self.assertEqual(free_names(formula=ONE), ("x",))
        self.assertEqual(nodes_in(formula=ONE), 1)


class Shorts(TestCase):
    def test_each_short(self):
        for short in SHORTS:
            self.assertIs(is_short(short), True)
            self.assertIs(is_long(short), True)
            self.assertIs(is_formula(short), False)
            self.assertEqual(nodes_in(short), 1)
            self.assertEqual(free_names(short), tuple(sorted(set(short[1:]))))
            self.assertIs(is_short(short[:1] + ("in",) * (len(short) - 1)), True)

    def test_inside(self):
        for short in SHORTS:
            for formula in (("not", short), ("both", ONE, short), ("either", short, short), ("some", "y", short)):
                self.assertIs(is_long(formula), True)
                self.assertIs(is_formula(formula), False)
                self.assertIs(is_short(formula), False)
                self.assertEqual(nodes_in(formula), len(formula) if formula[0] not in ("some",) else 2)
            self.assertIs(is_sentence(("some", "y", ("all", "x", short))), True)
            self.assertEqual(free_names(("some", "y", short)), ("x",))

    def test_wrong_shorts(self):
        for short in SHORTS:
            for thing in (
                short[:-1], short + ("x",), list(short), short[:1] + (None,) * (len(short) - 1), (short[0].upper(),) + short[1:],
                short[:-1] + (("x",),), short[:-1] + ("all",), short[:-1] + ("",), short[0], short[1:],
            ):
                self.assertIs(is_short(thing), False, thing)
                self.assertIs(is_long(thing), False, thing)
            for thing in spoiled(short):
                self.assertIs(is_short(thing), False)
