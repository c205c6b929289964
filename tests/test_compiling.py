"""[43], with [42] and [48]: readers of formulas."""

from itertools import product
from unittest import TestCase

from alongall.changing import backward, renamed, widened
from alongall.combining import contrary, joining, meeting
from alongall.compiling import reader_of
from alongall.errors import BadFormula, TooMany
from alongall.formulas import is_long
from alongall.hiding import hidden
from alongall.least import least
from alongall.readers import is_reader, takes
from alongall.texts import formula_of
from alongall.weaves import written
from tests.formulas import (
    ONE_NAMED, TWO_NAMED, all_of, atoms, free_by_hand, holds, implies, many_formulas, sets_of, told_short,
)
from tests.odd import odd_values, spoiled
from tests.samples import A, NONE, X, Y, back, letters_by_hand, mix, on, tallied, then
from tests.test_least import NONE_AT_ALL

XY = ("letter", ("x", "y"))
EVERYTHING = ("reader", (), NONE_AT_ALL, (0,), (0,))
NOTHING = ("reader", (), NONE_AT_ALL, (0,), ())


def told(formula):
    """reader_of, None for TooMany."""
    try:
        return reader_of(formula)
    except TooMany:
        return None


def most_told(formula):
    """What TooMany tells."""
    try:
        reader_of(formula)
    except TooMany as wrong:
        return wrong.most
    return None


class Atoms(TestCase):
    def check_finite(self, formula, longest, step=1):
        """That the reader takes finite words as [42] tells."""
        reader = reader_of(formula)
        scope = reader[1]
        self.assertEqual(scope, tuple(sorted(free_by_hand(formula))))
        self.assertTrue(is_reader(reader))
        self.assertEqual(least(reader), reader)
        for many in range(longest + 1):
            for row in list(product(letters_by_hand(scope), repeat=many))[::step]:
                right = holds(formula, many, sets_of(scope, row))
                self.assertIs(takes(reader, written(scope, row)), right, (formula, row))

    def test_finite_words(self):
        for formula in atoms(("x", "y")):
            self.check_finite(formula, 4)
            self.check_finite(("not", formula), 3)

    def test_names_in_any_order(self):
        for formula in atoms(("x", "y")):
            if len(formula) == 3 and formula[1] != formula[2]:
                turned_names = (formula[0], formula[2], formula[1])
                self.assertEqual(reader_of(turned_names), renamed(reader_of(formula), ("y", "x")))
                told_other = (formula[0], "zz", "b")
                self.check_finite(told_other, 2)

    def test_smallest_by_hand(self):
        self.assertEqual(reader_of(("one", "x")), ("reader", ("x",), tallied(2), (0, 1), (1,)))
        self.assertEqual(reader_of(("bare", "x")), ("reader", ("x",), tallied(1), (0, 1), (0,)))
        self.assertEqual(reader_of(("ahead", "x", "x")), reader_of(("bare", "x")))
        self.assertEqual(reader_of(("apart", "x", "x")), reader_of(("bare", "x")))
        self.assertEqual(reader_of(("sub", "x", "x")), ("reader", ("x",), NONE_AT_ALL, (0, 0), (0,)))
        self.assertEqual(reader_of(("same", "x", "x")), reader_of(("sub", "x", "x")))
        self.assertEqual(reader_of(("next", "x", "x")), ("reader", ("x",), NONE_AT_ALL, (0, 0), ()))
        self.assertEqual(reader_of(("first", "x", "x")), reader_of(("one", "x")))
        self.assertEqual(reader_of(("last", "x", "x")), reader_of(("one", "x")))
        self.assertEqual(reader_of(("sub", "x", "y")), ("reader", ("x", "y"), tallied(1), (0, 1, 0, 0), (0,)))
        self.assertEqual(reader_of(("last", "x", "y")), backward(reader_of(("first", "x", "y"))))

    def test_endless_words_by_hand(self):
        m = mix(A, X)
        rows = {
            ("finite", "x"): ((on(A), True), (on(X), False), (back(X), False), (mix(A), True), (mix(X), False), (then(X, on(A)), True)),
            ("well", "x"): (
                (on(X), True), (on(on(X)), True), (back(X), False), (back(on(X)), False), (mix(X), False), (mix(A), True), (back(A), True),
                (then(back(A), X, mix(A)), True), (on(mix(A)), True), (then(on(X), on(X)), True), (on(back(X)), False)),
            ("scattered", "x"): (
                (on(X), True), (back(X), True), (on(back(on(X))), True), (mix(A), True), (mix(X), False), (m, False),
                (then(mix(A), X, mix(A), X), True), (back(mix(A)), True), (mix(A, on(X)), False), (on(then(X, mix(A))), True)),
            ("dense", "x"): (
                (NONE, True), (X, True), (then(X, X), False), (then(X, A, A, X), False), (mix(X), True), (m, True), (on(X), False),
                (on(mix(X)), True), (mix(on(X)), False), (mix(then(X, X)), False), (then(X, mix(X)), True), (then(mix(X), X), True),
                (then(X, mix(X), X), True), (then(mix(X), X, X), False), (then(mix(X), X, mix(X)), True), (then(mix(X), mix(X)), True),
                (on(then(X, mix(X))), True), (on(then(mix(X), X)), True), (on(then(X, mix(X), X)), False), (back(then(mix(X), X)), True),
                (back(then(X, mix(X))), True), (back(then(X, mix(X), X)), False), (mix(then(X, mix(X), X)), True), (on(A), True),
                (then(mix(X), on(A), mix(X)), True), (then(mix(X), X, back(A), X), False), (mix(A, then(X, mix(X))), True),
                (mix(A, then(X, A, X)), False), (back(X), False), (then(X, on(A), mix(X), X), True)),
            ("down", "x"): (
                (on(X), True), (then(on(X), A), True), (then(on(X), back(A)), True), (then(back(X), A, X), False), (mix(X), True),
                (mix(A), True), (m, False), (on(then(X, A)), False), (then(mix(X), mix(A)), True), (then(A, X), False), (on(A), True),
                (back(A), True), (then(back(A), X), False), (then(X, on(A)), True), (back(then(X, A)), False)),
            ("bare", "x"): ((on(A), True), (on(X), False), (mix(A), True), (m, False), (back(then(A, X)), False)),
            ("one", "x"): ((on(A), False), (then(on(A), X, mix(A)), True), (then(X, on(A), X), False), (mix(X), False), (on(X), False)),
            ("sub", "x", "y"): ((on(XY), True), (on(then(XY, Y)), True), (mix(A, X), False), (mix(A, Y), True), (back(X), False)),
            ("ahead", "x", "y"): (
                (then(on(X), back(Y)), True), (on(X), True), (mix(Y), True), (mix(X, Y), False), (then(mix(X), mix(Y)), True),
                (on(then(X, Y)), False), (back(then(X, Y)), False), (on(XY), False), (then(on(Y), X), False), (mix(A), True)),
            ("first", "x", "y"): (
                (then(XY, on(Y)), True), (then(on(A), XY, mix(Y)), True), (then(back(Y), XY), False), (on(XY), False), (on(Y), False),
                (then(mix(A), XY), True), (mix(XY), False), (then(X, on(Y)), False), (then(XY, back(Y)), True), (then(Y, XY), False)),
            ("last", "x", "y"): (
                (then(back(Y), XY), True), (then(mix(Y), XY, mix(A)), True), (then(XY, on(Y)), False), (back(XY), False),
                (then(on(Y), XY, on(A)), True), (then(on(Y), X), False), (mix(XY), False), (then(back(Y), XY, back(A)), True)),
            ("next", "x", "y"): (
                (then(on(A), X, Y, back(A)), True), (then(mix(A), X, Y, mix(A)), True), (then(X, A, Y), False), (then(Y, X), False),
                (then(X, NONE, Y), True), (then(X, mix(A), Y), False), (then(back(X), Y), False), (then(X, on(A), Y), False), (XY, False),
                (then(back(A), X, Y), True), (then(X, Y, X), False), (then(X, back(A), Y), False), (on(then(X, Y)), False)),
            ("same", "x", "y"): ((on(XY), True), (on(then(XY, A)), True), (mix(A, X, Y), False), (mix(A, XY), True), (back(X), False)),
            ("apart", "x", "y"): ((on(then(X, Y)), True), (mix(A, X, Y), True), (mix(A, XY), False), (back(XY), False)),
        }
        for formula, told_words in rows.items():
            reader = reader_of(formula)
            for weave, right in told_words:
                self.assertIs(takes(reader, weave), right, (formula, weave))

    def test_as_formulas(self):
        # [48]: HEART (shorts), and where TooMany is raised.
        for short in atoms(("x", "y"))[10:] + [("next", "p", "q"), ("well", "a"), ("first", "b", "a"), ("finite", "b")]:
            if short[0] in ("dense", "scattered"):
                self.assertEqual(most_told(told_short(short)), 10)
            else:
                self.assertEqual(reader_of(told_short(short)), reader_of(short), short)

    def test_dense_and_scattered_said_otherwise(self):
        # Dense: among the places of x alone no one has a next one.
        gaps = reader_of(formula_of("!some x: some y: next x y"))
        self.assertEqual(
            reader_of(("dense", "x")), least(("reader", ("x",), gaps[2], (0, gaps[3][0]), gaps[4])))
        found = told(formula_of("!some y: ((dense y & y in x) & !(one y | bare y))"))
        if found is not None:
            self.assertEqual(found, reader_of(("scattered", "x")))
        every = reader_of(formula_of("!some y: (dense y & !(one y | bare y))"))
        self.assertEqual(least(("reader", ("x",), every[2], (0, every[3][0]), every[4])), reader_of(("scattered", "x")))
        self.assertEqual(reader_of(formula_of("all y: (!y in x | (bare y | some z: first z y))")), reader_of(("well", "x")))


class Formulas(TestCase):
    def test_finite_words(self):
        many = 0
        for formula in many_formulas(80, ("x", "y"), 4, 160):
            reader = told(formula)
            if reader is None:
                continue
            many += 1
            scope = reader[1]
            self.assertEqual(scope, tuple(sorted(free_by_hand(formula))))
            for long in range(4):
                for row in list(product(letters_by_hand(scope), repeat=long))[::5]:
                    right = holds(formula, long, sets_of(scope, row))
                    self.assertIs(takes(reader, written(scope, row)), right, (formula, row))
        self.assertGreater(many, 120)

    def test_three_names(self):
        many = 0
        for formula in many_formulas(81, ("a", "m", "x"), 3, 120, False):
            reader = told(formula) if is_long(formula) else None
            if reader is None:
                continue
            many += 1
            for row in list(product(letters_by_hand(reader[1]), repeat=2))[::3]:
                self.assertIs(
                    takes(reader, written(reader[1], row)), holds(formula, 2, sets_of(reader[1], row)), (formula, row))
        self.assertGreater(many, 70)

    def test_made_part_by_part(self):
        for f, g in product(atoms(("x", "y"))[::3], repeat=2):
            one, other = reader_of(f), reader_of(g)
            scope = tuple(sorted(set(one[1] + other[1])))
            one, other = widened(one, scope), widened(other, scope)
            for head, ask in (("both", meeting), ("either", joining)):
                try:
                    right = ask(one, other)
                except TooMany as wrong:
                    self.assertEqual(most_told((head, f, g)), wrong.most)
                    continue
                self.assertEqual(reader_of((head, f, g)), right)
        for f in atoms(("x", "y"))[::2]:
            reader = reader_of(f)
            self.assertEqual(reader_of(("not", f)), contrary(reader))
            for x in ("x", "y", "z"):
                if x in reader[1]:
                    self.assertEqual(reader_of(("some", x, f)), hidden(reader, x))
                    self.assertEqual(reader_of(("all", x, f)), contrary(hidden(contrary(reader), x)))
                else:
                    self.assertEqual(reader_of(("some", x, f)), reader)
                    self.assertEqual(reader_of(("all", x, f)), reader)

    def test_bound_anew(self):
        self.assertEqual(reader_of(formula_of("some x: (one x & all x: x in y)"))[1], ("y",))
        self.assertEqual(
            reader_of(formula_of("some x: (one x & all x: x in y)")), reader_of(formula_of("(some x: one x & all x: x in y)")))
        self.assertEqual(reader_of(formula_of("some x: some x: x < y")), reader_of(formula_of("some x: x < y")))
        self.assertEqual(reader_of(formula_of("(one x & some x: x < y)"))[1], ("x", "y"))

    def test_same_meaning_equal_readers(self):
        for one, other in (
            ("!some x: !one x", "all x: one x"), ("!(one x & one y)", "(!one x | !one y)") , ("one x", "(one x & one x)"),
            ("bare x", "all y: x in y"), ("bare x", "x < x"), ("same x y", "(x in y & y in x)"), ("x in y", "all z: (!(one z & z in x) | z in y)"),
            ("finite x", "(well x & !some y: ((y in x & !bare y) & !some z: last z y))"), ("some x: one x", "!all x: bare x"),
            ("one x", "(!bare x & all y: (!y in x | (bare y | x in y)))"), ("all y: (!y in x | y in x)", "x in x"),
            ("(x in y & y in z)", "((x in z & y in z) & x in y)"), ("all x: (finite x | !finite x)", "all x: x in x"),
            ("first x y", "(x in y & (one x & all z: (!z in y | (x < z | !apart x z))))"), ("!!one x", "one x"),
        ):
            first, second = formula_of(one), formula_of(other)
            self.assertEqual(reader_of(first), reader_of(second), (one, other))

    def test_gaps(self):
        # [49]
        n = "!some x: some y: next x y"
        t = "some x: some y: (one x & (x < y & !y < y))"
        g = (
            "some x: ((((down x & !x < x) & !some y: last y x) & !all y: y in x) & "
            "!some y: ((one y & !y in x) & all z: (!(one z & !z in x) | (z in y | y < z))))")
        self.assertEqual(reader_of(formula_of("(!(" + n + " & " + t + ") | " + g + ")")), EVERYTHING)
        self.assertEqual(reader_of(formula_of("(" + n + " & (" + t + " & !" + g + "))")), NOTHING)
        for text, weave, right in ((n, mix(A), True), (n, on(A), False), (t, A, False), (t, on(A), True), (g, mix(A), True), (g, on(A), False),
                                   (g, then(on(A), back(A)), True), (g, back(A), False), (n, A, True)):
            self.assertIs(takes(reader_of(formula_of(text)), weave), right, text)

    def test_none_raised(self):
        # The FACT: whatever not, some and all bring in front of it.
        def go_on(reader, seen):
            if reader not in seen:
                seen.add(reader)
                go_on(contrary(reader), seen)
                for name in reader[1]:
                    go_on(hidden(reader, name), seen)

        seen = set()
        for formula in atoms(("x", "y")):
            go_on(reader_of(formula), seen)
        plain = atoms(("x", "y"), False)
        plain += [("not", formula) for formula in plain]
        for f, g in list(product(plain, repeat=2))[::4]:
            heads = [part[1] if part[0] == "not" else part for part in (f, g)]
            if heads not in ([("one", "x"), ("one", "y")], [("one", "y"), ("one", "x")]):
                go_on(reader_of(("both", f, g)), seen)
                go_on(reader_of(("either", f, g)), seen)
        self.assertEqual(most_told(("either", ("one", "x"), ("one", "y"))), 8)

    def test_too_many_in_order(self):
        eight = ("either", ("one", "x"), ("one", "y"))
        ten = told_short(("dense", "x"))
        fourteen = ("both", ("next", "x", "y"), ("one", "z"))
        self.assertEqual([most_told(formula) for formula in (eight, ten, fourteen)], [8, 10, 14])
        for head in ("both", "either"):
            self.assertEqual(most_told((head, eight, ten)), 8)
            self.assertEqual(most_told((head, ten, eight)), 10)
            self.assertEqual(most_told((head, ("one", "x"), ten)), 10)
            self.assertEqual(most_told((head, ten, fourteen)), 10)
            self.assertEqual(most_told((head, fourteen, ten)), 14)
        for formula, most in ((eight, 8), (ten, 10), (fourteen, 14)):
            for whole in (("not", formula), ("some", "x", formula), ("all", "q", formula), ("all", "x", ("not", formula))):
                self.assertEqual(most_told(whole), most)

    def test_sentences(self):
        for text, right in (
            ("some x: one x", ((NONE, False), (A, True), (mix(A), True), (on(NONE), False))),
            ("all x: well x", ((NONE, True), (on(on(A)), True), (back(A), False), (mix(A), False))),
            ("all x: scattered x", ((on(back(A)), True), (mix(A), False), (on(mix(A)), False))),
            ("all x: finite x", ((NONE, True), (then(A, A, A), True), (on(A), False), (back(A), False))),
            ("some x: some y: next x y", ((A, False), (then(A, A), True), (mix(A), False), (then(mix(A), mix(A)), False), (on(A), True))),
            ("some x: (!bare x & !some y: last y x)", ((on(A), True), (back(A), False), (then(on(A), A), True), (A, False))),
        ):
            reader = reader_of(formula_of(text))
            self.assertEqual(reader[1], ())
            for weave, holds_there in right:
                self.assertIs(takes(reader, weave), holds_there, (text, weave))

    def test_turned(self):
        def mirrored(formula):
            head = formula[0]
            if head == "ahead":
                return ("ahead", formula[2], formula[1])
            if head in ("sub", "one"):
                return formula
            if head in ("some", "all"):
                return (head, formula[1], mirrored(formula[2]))
            return (head,) + tuple(mirrored(part) for part in formula[1:])

        for formula in many_formulas(82, ("x", "y"), 4, 60, False):
            if told(formula) is not None:
                self.assertEqual(reader_of(mirrored(formula)), backward(reader_of(formula)))

    def test_wrong_values(self):
        four = ("both", ("sub", "a", "b"), ("sub", "c", "d"))
        for thing in odd_values() + [four, ("one", "all"), ("not",), ["one", "x"], ("one", "x", "y"), ("some", "x"), "one x", ()]:
            self.assertRaises(BadFormula, reader_of, thing)
        for thing in spoiled(("some", "x", ("both", ("one", "x"), ("first", "x", "y")))):
            self.assertRaises(BadFormula, reader_of, thing)
        self.assertEqual(reader_of(formula=("all", "x", ("sub", "x", "x"))), EVERYTHING)

    def test_sixty_nodes(self):
        formula = ("one", "x")
        for _ in range(59):
            formula = ("not", formula)
        self.assertEqual(reader_of(formula), contrary(reader_of(("one", "x"))))
        self.assertRaises(BadFormula, reader_of, ("not", formula))
        whole = all_of(*[("sub", "x", "y")] * 30)
        self.assertEqual(reader_of(whole), reader_of(("sub", "x", "y")))
        self.assertRaises(BadFormula, reader_of, implies(whole, ("sub", "x", "y")))

    def test_names_of_shorts(self):
        self.assertEqual(len(ONE_NAMED) + len(TWO_NAMED), 11)
