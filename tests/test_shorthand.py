"""[48]: shorts told by formulas."""

from unittest import TestCase

from alongall.compiling import reader_of
from alongall.errors import BadFormula, BadShort, TooMany
from alongall.formulas import free_names, is_formula, nodes_in
from alongall.shorthand import as_formula, without_shorts
from alongall.texts import text_of
from tests.formulas import ONE_NAMED, TWO_NAMED, atoms, free_by_hand, holds, many_formulas, sets_of, told_short
from tests.odd import Strange, odd_values, spoiled
from tests.samples import letters_by_hand

TOLD = {
    ("bare", "x"): "x < x",
    ("same", "x", "y"): "(x in y & y in x)",
    ("apart", "x", "y"): "all a: (!(a in x & a in y) | a < a)",
    ("first", "x", "y"): "(one x & (x in y & all a: (!(one a & a in y) | (a in x | x < a))))",
    ("last", "x", "y"): "(one x & (x in y & all a: (!(one a & a in y) | (a in x | a < x))))",
    ("next", "x", "y"): "(one x & (one y & (x < y & all a: (!(one a & x < a) | !a < y))))",
    ("down", "x"): "all a: (!a in x | all b: (!(one b & b < a) | (a < a | b in x)))",
    ("dense", "x"): (
        "!some a: (a in x & ((!a < a & (!one a & all b: (!b in a | (a in b | (b < b | one b)))))"
        " & all b: (!(one b & b in x) | (b in a | (b < a | a < b)))))"),
    ("well", "x"): "all a: (!a in x | (a < a | some b: (one b & (b in a & all c: (!(one c & c in a) | (c in b | b < c))))))",
    ("finite", "x"): (
        "(all a: (!a in x | (a < a | some b: (one b & (b in a & all c: (!(one c & c in a) | (c in b | b < c))))))"
        " & all a: (!a in x | (a < a | some b: (one b & (b in a & all c: (!(one c & c in a) | (c in b | c < b)))))))"),
    ("scattered", "x"): (
        "all a: (!(a in x & !some b: (b in a & ((!b < b & (!one b & all c: (!c in b | (b in c | (c < c | one c)))))"
        " & all c: (!(one c & c in a) | (c in b | (c < b | b < c)))))) | (a < a | one a))"),
}
NINE = ("bare", "same", "apart", "first", "last", "next", "down", "well", "finite")


def all_shorts(names):
    return [(head, x) for head in ONE_NAMED for x in names] + [(head, x, y) for head in TWO_NAMED for x in names for y in names]


def told_by_hand(formula):
    head = formula[0]
    if head in ONE_NAMED + TWO_NAMED:
        return told_short(formula)
    if head in ("sub", "ahead", "one"):
        return formula
    if head in ("some", "all"):
        return formula[:2] + (told_by_hand(formula[2]),)
    return (head,) + tuple(told_by_hand(part) for part in formula[1:])


def count(formula):
    if formula[0] in ("sub", "ahead", "one"):
        return 1
    return 1 + sum(count(part) for part in (formula[2:] if formula[0] in ("some", "all") else formula[1:]))


class AsFormula(TestCase):
    def test_word_for_word(self):
        self.assertEqual(len(TOLD), 11)
        for short, text in TOLD.items():
            self.assertEqual(text_of(as_formula(short)), text, short)

    def test_names(self):
        for short in all_shorts(("a", "b", "c", "d", "x", "aa", "abc")):
            told = as_formula(short)
            self.assertEqual(told, told_short(short))
            self.assertTrue(is_formula(told))
            self.assertEqual(free_names(told), tuple(sorted(set(short[1:]))))
        self.assertEqual(text_of(as_formula(("apart", "a", "b"))), "all c: (!(c in a & c in b) | c < c)")
        self.assertEqual(text_of(as_formula(("apart", "b", "b"))), "all a: (!(a in b & a in b) | a < a)")
        self.assertEqual(text_of(as_formula(("down", "a"))), "all b: (!b in a | all c: (!(one c & c < b) | (b < b | c in a)))")
        self.assertEqual(text_of(as_formula(("down", "b"))), "all a: (!a in b | all c: (!(one c & c < a) | (a < a | c in b)))")

    def test_readers(self):
        for short in all_shorts(("x", "y", "a", "b")):
            if short[0] in NINE:
                self.assertEqual(reader_of(short), reader_of(as_formula(short)), short)
            else:
                try:
                    self.assertEqual(reader_of(short), reader_of(as_formula(short)))
                except TooMany:
                    pass

    def test_finite_words(self):
        from itertools import product
        for short in all_shorts(("x", "y")):
            scope = tuple(sorted(set(short[1:])))
            told = as_formula(short)
            for many in range(4 if len(scope) == 1 else 3):
                for row in product(letters_by_hand(scope), repeat=many):
                    self.assertEqual(holds(told, many, sets_of(scope, row)), holds(short, many, sets_of(scope, row)), (short, row))

    def test_errors(self):
        for bad in odd_values() + list(spoiled(("next", "x", "y"))) + atoms(("x", "y"), False) + [
                ("bare",), ("bare", "x", "y"), ("same", "x"), ("next", "x", "all"), ("well", "X"), ("well", Strange()), ["bare", "x"], ("not", ("bare", "x"))]:
            self.assertRaises(BadShort, as_formula, bad)
        self.assertEqual(as_formula(short=("bare", "x")), ("ahead", "x", "x"))


class WithoutShorts(TestCase):
    def test_any_formula(self):
        seen = set()
        for formula in many_formulas(660, ("a", "x", "y"), 4, 150) + many_formulas(661, ("a", "b", "c"), 3, 60):
            right = told_by_hand(formula)
            if count(right) > 60:
                with self.assertRaises(TooMany) as caught:
                    without_shorts(formula)
                self.assertEqual(caught.exception.most, 60)
                seen.add("nodes")
            else:
                told = without_shorts(formula)
                self.assertEqual(told, right)
                self.assertTrue(is_formula(told), formula)
                self.assertEqual(free_names(told), tuple(sorted(free_by_hand(formula))))
                seen.add("told")
        self.assertEqual(seen, {"nodes", "told"})

    def test_free_names_beside_bound_ones(self):
        for formula in (
            ("some", "a", ("well", "x")), ("all", "x", ("well", "x")), ("some", "a", ("both", ("dense", "x"), ("one", "a"))),
            ("both", ("sub", "a", "b"), ("well", "c")), ("both", ("finite", "a"), ("sub", "b", "c")), ("some", "b", ("next", "a", "b")),
            ("all", "a", ("some", "b", ("scattered", "c"))), ("either", ("down", "x"), ("ahead", "a", "b")),
        ):
            told = without_shorts(formula)
            self.assertEqual(told, told_by_hand(formula))
            self.assertTrue(is_formula(told))
            self.assertEqual(free_names(told), free_names(formula))
            try:
                self.assertEqual(reader_of(told), reader_of(formula))
            except TooMany:
                pass

    def test_just_60_nodes(self):
        def nots(many, formula):
            for _ in range(many):
                formula = ("not", formula)
            return formula

        for short in TOLD:
            room = 60 - nodes_in(as_formula(short))
            self.assertEqual(nodes_in(without_shorts(nots(min(room, 59), short))), min(60, 59 + nodes_in(as_formula(short))))
            if room < 59:
                self.assertRaises(TooMany, without_shorts, nots(room + 1, short))
        self.assertEqual(without_shorts(nots(59, ("one", "x"))), nots(59, ("one", "x")))
        self.assertEqual(without_shorts(("sub", "x", "y")), ("sub", "x", "y"))
        self.assertRaises(TooMany, without_shorts, ("both", ("finite", "x"), ("well", "x")))

    def test_errors(self):
        for bad in odd_values() + list(spoiled(("not", ("next", "x", "y")))) + [("bare",), ("both", ("next", "a", "b"), ("next", "c", "d"))]:
            self.assertRaises(BadFormula, without_shorts, bad)
        self.assertEqual(without_shorts(formula=("bare", "x")), ("ahead", "x", "x"))
