"""[60], [61]: places formulas, and where they hold."""

from random import Random
from unittest import TestCase

from alongall.errors import BadPlaced, BadScope, BadSpot, BadWeave
from alongall.placed import is_placed, mirrored, names_of, there
from alongall.weaves import spelled
from tests.odd import Strange, doubled, nested, odd_values, spoiled
from tests.oracles import Places, exchanged, row_holds
from tests.samples import (
    A, NONE, X, Y, back, many_weaves, mix, on, places_in_order, spot_turned, spots_by_hand, then, turned_by_hand,
)

XY = ("x", "y")
MX = ("mark", "x")
MY = ("mark", "y")
TRUE = ("either", MX, ("not", MX))


def until(p, q):
    return ("until", p, q)


def since(p, q):
    return ("since", p, q)


def nots(many, formula):
    for _ in range(many):
        formula = ("not", formula)
    return formula


def looks_in(formula):
    if formula[0] == "mark":
        return 0
    return (formula[0] in ("until", "since")) + sum(looks_in(part) for part in formula[1:])


def nodes_in(formula):
    return 1 if formula[0] == "mark" else 1 + sum(nodes_in(part) for part in formula[1:])


def any_placed(random, deep, names="xyw"):
    """Some places formula."""
    heads = ("mark", "not", "both", "either", "until", "since", "until", "since")
    head = random.choice(heads) if deep > 1 else "mark"
    if head == "mark":
        return ("mark", random.choice(names))
    return (head,) + tuple(any_placed(random, deep - 1, names) for _ in range(1 if head == "not" else 2))


def many_placed(seed, deep, many):
    """Some places formulas, with at most 6 until and since."""
    random = Random(seed)
    found = []
    while len(found) < many:
        formula = any_placed(random, deep)
        if looks_in(formula) <= 6 and nodes_in(formula) <= 60:
            found.append(formula)
    return found


class IsPlaced(TestCase):
    def test_each_kind(self):
        for formula in (MX, ("not", MX), ("both", MX, MY), ("either", MX, MY), until(MX, MY), since(MX, MY), TRUE):
            self.assertIs(is_placed(formula), True)

    def test_wrong_shapes(self):
        for thing in (
            ("mark",), ("mark", "x", "y"), ("mark", ("x",)), ("mark", "all"), ("mark", "X"), ("not",), ("not", MX, MX),
            ("both", MX), ("both", MX, MX, MX), ("either", MX), ("until", MX), ("since", MX, MX, MX), "x", ("x",),
            ["mark", "x"], ("not", ["mark", "x"]), ("some", "x", MX), ("next", MX), ("mark", None), ("not", "x"),
        ):
            self.assertIs(is_placed(thing), False, thing)

    def test_nodes(self):
        self.assertIs(is_placed(nots(59, MX)), True)
        self.assertIs(is_placed(nots(60, MX)), False)
        row = MX
        for _ in range(29):
            row = ("both", MY, row)
        self.assertIs(is_placed(row), True)
        self.assertIs(is_placed(("not", row)), True)
        self.assertIs(is_placed(nots(2, row)), False)

    def test_names(self):
        three = ("both", MX, ("both", MY, ("mark", "z")))
        self.assertIs(is_placed(three), True)
        self.assertIs(is_placed(("both", MX, three)), True)
        self.assertIs(is_placed(("both", ("mark", "w"), three)), False)

    def test_looks(self):
        formula = MX
        for _ in range(6):
            formula = until(MY, formula)
        self.assertIs(is_placed(formula), True)
        self.assertIs(is_placed(until(MY, formula)), False)
        self.assertIs(is_placed(since(formula, MX)), False)
        three = until(MX, until(MX, since(MX, MY)))
        self.assertIs(is_placed(("both", three, three)), True)
        self.assertIs(is_placed(("both", until(MX, MX), ("both", three, three))), False)

    def test_any_value(self):
        for thing in odd_values() + [nested("not", 10 ** 5), doubled("both", MX, 59), doubled("until", MX, 99)]:
            self.assertIs(is_placed(thing), False)
        for formula in (MX, until(MX, ("not", MY)), ("both", since(MX, MY), ("either", MX, MY))):
            for thing in spoiled(formula):
                self.assertIs(is_placed(thing), False)

    def test_names_of(self):
        self.assertEqual(names_of(MX), ("x",))
        self.assertEqual(names_of(until(MY, ("both", MX, MY))), ("x", "y"))
        self.assertEqual(names_of(("both", ("mark", "z"), ("both", ("mark", "b"), ("mark", "a")))), ("a", "b", "z"))

    def test_mirrored(self):
        self.assertEqual(mirrored(MX), MX)
        self.assertEqual(mirrored(until(MX, since(MY, MX))), since(MX, until(MY, MX)))
        for formula in many_placed(1, 5, 100):
            self.assertEqual(mirrored(formula), exchanged(formula))
            self.assertEqual(mirrored(mirrored(formula)), formula)

    def test_bad_placed(self):
        for bad in odd_values() + [nots(60, MX)]:
            for ask in (names_of, mirrored):
                self.assertRaises(BadPlaced, ask, bad)
            self.assertRaises(BadPlaced, there, None, bad, None, None)


class There(TestCase):
    def test_marks(self):
        weave = then(A, X, Y, ("letter", XY))
        told = [there(XY, MX, weave, spot) for spot in places_in_order(weave)]
        self.assertEqual(told, [False, True, False, True])
        told = [there(XY, ("either", MX, ("not", MY)), weave, spot) for spot in places_in_order(weave)]
        self.assertEqual(told, [True, True, False, True])

    def test_example_by_hand(self):
        # [66]
        f = until(MX, MY)
        weave = then(X, X, Y)
        self.assertEqual([there(XY, f, weave, spot) for spot in places_in_order(weave)], [True, True, False])
        weave = back(then(X, Y))
        told = [there(XY, f, weave, (number, at)) for number in (3, 2, 1, 0) for at in (0, 1)]
        self.assertEqual(told, [True, True, True, True, True, True, True, False])
        nowhere = until(MX, ("both", MX, ("not", MX)))
        last = ("not", until(TRUE, TRUE))
        for weave in many_weaves(40, XY, 4, 30):
            for spot in spots_by_hand(weave, 2):
                self.assertFalse(there(XY, nowhere, weave, spot))
        self.assertIs(there((), last, A, ()), True)
        self.assertIs(there((), last, then(A, A), (0,)), False)
        self.assertIs(there((), last, on(A), (40,)), False)
        self.assertIs(there((), last, back(A), (0,)), True)
        self.assertIs(there((), last, back(A), (1,)), False)

    def test_ends(self):
        something = until(TRUE, TRUE)
        for weave, spot, right in (
            (A, (), False), (then(A, NONE), (0,), False), (then(A, on(NONE), A), (0,), True), (mix(A), (0,), True),
            (back(A), (0,), False), (back(A), (5,), True), (on(A), (5,), True), (then(mix(A), NONE), (0, 0), True),
        ):
            self.assertIs(there((), something, weave, spot), right)
            self.assertIs(there((), mirrored(something), turned_by_hand(weave), spot_turned(weave, spot)), right)

    def test_until_needs_a_later_place(self):
        self.assertIs(there(XY, until(MX, MY), then(Y, X), (0,)), False)
        self.assertIs(there(XY, until(MX, MY), then(Y, Y), (0,)), True)
        self.assertIs(there(XY, until(MX, MY), then(A, A, Y), (0,)), False)
        self.assertIs(there(XY, until(MX, MX), on(X), (3,)), True)
        # p for ever, but q never comes.
        self.assertIs(there(XY, until(MX, MY), then(A, on(X)), (0,)), False)
        self.assertIs(there(XY, until(MX, MY), then(A, on(X), Y), (0,)), True)
        self.assertIs(there(XY, until(MX, MY), then(A, on(X), A, Y), (0,)), False)
        self.assertIs(there(XY, until(MX, MY), then(A, back(X), Y), (0,)), True)
        self.assertIs(there(XY, until(MX, MY), then(A, back(Y)), (0,)), False)

    def test_dense_parts(self):
        both = ("letter", XY)
        # No next place: between there is always each part.
        self.assertIs(there(XY, until(MX, MY), then(A, mix(X, Y)), (0,)), False)
        self.assertIs(there(XY, until(MX, MY), then(A, mix(X, both)), (0,)), True)
        self.assertIs(there(XY, until(MX, MY), then(A, mix(X), Y), (0,)), True)
        self.assertIs(there(XY, until(MX, MY), then(A, mix(X, A), Y), (0,)), False)
        self.assertIs(there(XY, until(("not", MY), MY), mix(X, Y), (0,)), False)
        self.assertIs(there(XY, until(("not", MY), MY), mix(then(X, Y)), (0, 0)), True)
        self.assertIs(there(XY, until(("not", MY), MY), mix(then(X, Y)), (0, 1)), False)
        self.assertIs(there(XY, since(MX, MY), then(mix(X, both), A), (1,)), True)
        self.assertIs(there(XY, until(TRUE, MY), mix(X, Y), (0,)), True)
        self.assertIs(there(XY, until(TRUE, MY), then(mix(X, Y), mix(X)), (1, 0)), False)

    def test_one_in_another(self):
        # The second place from the end, the third one, ..
        last = ("not", until(TRUE, TRUE))
        empty = ("both", MX, ("not", MX))
        for number in range(5):
            told = [there((), last, back(A), (k,)) for k in range(8)]
            self.assertEqual(told, [k == number for k in range(8)])
            last = until(empty, last)
        # The n-th place, of a word without end.
        first = ("not", since(TRUE, TRUE))
        for number in range(5):
            told = [there((), first, on(A), (k,)) for k in (0, 1, 2, 3, 4, 5, 6, 40)]
            self.assertEqual(told, [k == number for k in (0, 1, 2, 3, 4, 5, 6, 40)])
            first = since(empty, first)

    def test_marks_beyond_the_scope(self):
        self.assertIs(there((), MX, A, ()), False)
        self.assertIs(there(("y",), ("not", MX), Y, ()), True)
        self.assertIs(there(("y",), until(("not", MX), MY), then(Y, Y), (0,)), True)

    def test_finite_words(self):
        formulas = many_placed(2, 4, 60) + many_placed(3, 6, 20)
        for at, weave in enumerate(many_weaves(41, XY, 5, 80, ("none", "letter", "then", "then"))):
            row = spelled(XY, weave)
            for formula in (formulas[at % 80], formulas[(7 * at + 3) % 80]):
                for place, spot in enumerate(places_in_order(weave)):
                    self.assertIs(there(XY, formula, weave, spot), row_holds(formula, row, place), (formula, weave))

    def test_endless_words(self):
        formulas = many_placed(4, 3, 60) + many_placed(5, 5, 40)
        random = Random(6)
        for at, weave in enumerate(many_weaves(42, XY, 4, 250)):
            known = Places(weave)
            spots = spots_by_hand(weave, 7)
            for formula in (formulas[at % 100], formulas[(3 * at + 1) % 100]):
                for spot in random.sample(spots, min(5, len(spots))):
                    self.assertIs(there(XY, formula, weave, spot), known.holds(formula, spot), (formula, weave, spot))

    def test_copies_far_out(self):
        for formula in many_placed(7, 4, 40):
            for weave in (on(then(X, Y, A)), back(then(Y, X)), on(back(X)), then(X, on(mix(X, Y))), back(on(Y))):
                spots = [spot for spot in spots_by_hand(weave, 7) if 7 in spot]
                for spot in spots:
                    far = tuple(40 if number == 7 else number for number in spot)
                    self.assertIs(there(XY, formula, weave, far), there(XY, formula, weave, spot))

    def test_mirrored_words(self):
        for at, weave in enumerate(many_weaves(43, XY, 4, 60)):
            formula = many_placed(8 + at, 4, 1)[0]
            for spot in spots_by_hand(weave, 3)[::4]:
                other = there(XY, mirrored(formula), turned_by_hand(weave), spot_turned(weave, spot))
                self.assertIs(there(XY, formula, weave, spot), other)

    def test_large_weaves(self):
        formula = until(since(MX, MY), since(until(MY, MX), until(MX, since(MY, MX))))
        weave = then(X, Y)
        for number in range(50):
            weave = (on, back, mix, lambda part: then(part, Y))[number % 4](weave)
        for spot in ((0,) * 51, (0,) * 50 + (1,)):
            self.assertIn(there(XY, formula, weave, spot), (True, False))

    def test_errors_in_order(self):
        self.assertRaises(BadPlaced, there, ("y", "x"), None, None, None)
        self.assertRaises(BadScope, there, ("y", "x"), MX, None, None)
        self.assertRaises(BadWeave, there, (), MX, X, None)
        self.assertRaises(BadSpot, there, ("x",), MX, X, (0,))
        for bad in odd_values():
            self.assertRaises(BadScope, there, bad, MX, None, Strange())
            self.assertRaises(BadWeave, there, (), MX, bad, Strange())
            self.assertRaises(BadSpot, there, (), MX, A, bad)
        self.assertRaises(BadSpot, there, (), MX, on(A), (41,))
        self.assertRaises(BadSpot, there, (), MX, on(A), (True,))

    def test_by_name(self):
        self.assertTrue(there(scope=("x",), formula=MX, weave=X, spot=()))
        self.assertEqual(names_of(formula=MX), ("x",))
        self.assertEqual(mirrored(formula=MX), MX)
        self.assertTrue(is_placed(thing=MX))

