"""[54], [55], with [53], [57]: rounds formulas said of words, and sentences that part words."""

from itertools import product
from random import Random
from unittest import TestCase

from alongall.asrounds import as_rounds
from alongall.errors import BadDepth, BadLoose, BadRounds, BadScope, BadSpot, BadWeave, TooMany
from alongall.placed import there
from alongall.roundforms import is_rounds, loose, rounds_of
from alongall.sayings import sentence_apart, so, so_at
from alongall.views import alike_to
from alongall.weaves import letters_in, spelled, written
from tests.odd import odd_values, spoiled
from tests.oracles import round_holds
from tests.samples import A, NONE, X, Y, back, letters_by_hand, many_weaves, mix, on, places_in_order, spot_turned, spots_by_hand, then, turned_by_hand
from tests.test_making import BAD_SCOPES, BAD_WEAVES
from tests.test_placed import many_placed
from tests.test_roundforms import B, C, closed_rounds, many_rounds, rounds_by_hand
from tests.test_views import BAD_DEPTHS, row

XY = ("x", "y")
ENDLESS = (on(A), back(A), mix(A), on(then(X, A)), back(then(X, Y)), mix(X, Y), then(on(X), back(Y)), on(back(X)), mix(A, on(X)), on(mix(A, X)))


def some(x, *parts):
    return ("some", x, together(parts))


def every(x, *parts):
    return ("all", x, together(parts))


def together(parts):
    whole = parts[-1]
    for part in reversed(parts[:-1]):
        whole = ("both", part, whole)
    return whole


def if_so(one, other):
    return ("either", ("not", one), other)


FIRST = some("p", every("q", ("not", ("before", "q", "p"))))
LAST = some("p", every("q", ("not", ("before", "p", "q"))))
DENSE = every("p", every("q", if_so(("before", "p", "q"), some("r", ("before", "p", "r"), ("before", "r", "q")))))
NEXT = every("p", some("q", ("before", "p", "q"), every("r", ("not", ("both", ("before", "p", "r"), ("before", "r", "q"))))))


def chain_of(many):
    """That there are so many places, in as many rounds."""
    names = ["a", "b", "c", "d", "e", "f", "g", "h"][:many]
    told = ("same", names[-1], names[-1])
    for one, other in zip(names[-2::-1], names[:0:-1]):
        told = ("both", ("before", one, other), told)
    for name in reversed(names):
        told = ("some", name, told)
    return told



class So(TestCase):
    def test_by_hand(self):
        for formula, weave, right in (
            (FIRST, on(A), True), (FIRST, back(A), False), (FIRST, mix(A), False), (FIRST, NONE, False), (LAST, on(A), False), (LAST, back(A), True),
            (LAST, then(on(A), A), True), (DENSE, mix(A), True), (DENSE, on(A), False), (DENSE, then(A, mix(A), A), True), (DENSE, then(mix(A), A, A), False),
            (DENSE, NONE, True), (NEXT, on(A), True), (NEXT, back(A), False), (NEXT, then(back(A), on(A)), True), (NEXT, on(back(A)), False),
            (NEXT, on(on(A)), True), (NEXT, mix(on(A)), True), (NEXT, mix(back(A)), False), (some("p", B), on(then(A, X)), True), (some("p", B), on(A), False),
            (every("p", B), mix(X), True), (every("p", B), mix(X, A), False), (every("p", ("bears", "p", "z")), A, False), (some("p", ("bears", "p", "z")), X, False),
            (every("p", ("bears", "p", "z")), NONE, True), (every("p", if_so(B, some("q", ("before", "p", "q"), ("bears", "q", "x")))), on(then(X, A)), True),
        ):
            self.assertIs(so(("x",), formula, weave), right, (formula, weave))

    def test_finite_words(self):
        for formula in closed_rounds(640, 5, 120):
            if rounds_by_hand(formula) <= 6:
                for scope, longest in (((), 4), (("x",), 3), (XY, 2)):
                    for letters in product(letters_by_hand(scope), repeat=longest):
                        self.assertIs(so(scope, formula, written(scope, letters)), round_holds(formula, letters, {}), (formula, letters))

    def test_longer_words(self):
        random = Random(641)
        for formula in closed_rounds(642, 4, 40):
            for _ in range(4):
                letters = tuple(random.choice(letters_by_hand(XY)) for _ in range(random.randrange(4, 9)))
                self.assertIs(so(XY, formula, written(XY, letters)), round_holds(formula, letters, {}))

    def test_six_rounds(self):
        for many in range(1, 7):
            for places in range(many - 1, many + 2):
                self.assertIs(so((), chain_of(many), row(places)), places >= many)
            for weave in (on(A), back(A), mix(A), row(64)):
                self.assertTrue(so((), chain_of(many), weave))
        self.assertRaises(BadDepth, so, (), chain_of(7), A)

    def test_endless_words_alike_to_rows(self):
        # on and back of one letter are alike to rows of 2 ** n - 1 places and more.
        long = then(on(A), back(A))
        for formula in closed_rounds(643, 4, 60, ("p", "q"), ("x",)):
            rounds = rounds_by_hand(formula)
            if rounds <= 3:
                letters = ((),) * (2 ** rounds)
                self.assertIs(so((), formula, long), round_holds(formula, letters, {}), formula)
                self.assertIs(so((), formula, row(100)), round_holds(formula, letters, {}))

    def test_alike_words(self):
        # HEART (as far as rounds go).
        formulas = [formula for formula in closed_rounds(644, 5, 60) if rounds_by_hand(formula) <= 4]
        for one, other in (
            (on(X), then(X, on(X))), (on(then(X, Y)), then(X, on(then(Y, X)))), (mix(X, Y), then(mix(X, Y), X, mix(X, Y))),
            (on(X), then(on(X), back(X), on(X))), (on(back(A)), on(then(back(A), back(A)))), (back(X), back(then(X, X))), (row(40), row(50)),
        ):
            for formula in formulas:
                self.assertTrue(alike_to(XY, one, other, 4))
                self.assertIs(so(XY, formula, one), so(XY, formula, other))

    def test_turned(self):
        def turned_round(formula):
            if formula[0] == "before":
                return ("before", formula[2], formula[1])
            if formula[0] in ("bears", "same"):
                return formula
            if formula[0] in ("some", "all"):
                return formula[:2] + (turned_round(formula[2]),)
            return (formula[0],) + tuple(turned_round(part) for part in formula[1:])

        for formula in closed_rounds(645, 4, 40):
            for weave in ENDLESS:
                self.assertIs(so(XY, formula, weave), so(XY, turned_round(formula), turned_by_hand(weave)))

    def test_errors_in_order(self):
        for bad in odd_values() + list(spoiled(FIRST))[::7] + [("bears", "p", "p"), ("sub", "p", "x")]:
            self.assertRaises(BadRounds, so, ["x"], bad, None)
            self.assertRaises(BadRounds, so_at, ["x"], bad, None, None)
        for bad in (B, C, ("some", "q", B), ("all", "p", C)):
            self.assertRaises(BadLoose, so, ["x"], bad, None)
        for bad in odd_values() + BAD_SCOPES:
            self.assertRaises(BadScope, so, bad, chain_of(7), None)
        for bad in odd_values() + BAD_WEAVES:
            self.assertRaises(BadWeave, so, XY, chain_of(7), bad)
        self.assertRaises(BadDepth, so, XY, chain_of(8), A)
        self.assertIs(so(scope=(), formula=FIRST, weave=A), True)


class SoAt(TestCase):
    def test_finite_words(self):
        for formula in many_rounds(646, 4, 120):
            names = loose(formula)
            if len(names) == 1 and rounds_of(formula) <= 5:
                for weave in many_weaves(647, XY, 3, 4, ("none", "letter", "then", "then")):
                    letters = spelled(XY, weave)
                    for at, spot in enumerate(places_in_order(weave)):
                        self.assertIs(so_at(XY, formula, weave, spot), round_holds(formula, letters, {names[0]: at}))

    def test_told_places_formulas(self):
        # FACT of [62].
        many = 0
        for formula in many_placed(648, 4, 60):
            told = as_rounds(formula, "p")
            if rounds_of(told) <= 5:
                for weave in ENDLESS + tuple(many_weaves(649, XY, 4, 3)):
                    for spot in spots_by_hand(weave, 2)[:12]:
                        self.assertIs(so_at(XY, told, weave, spot), there(XY, formula, weave, spot), (formula, weave, spot))
                        many += 1
        self.assertGreater(many, 500)

    def test_turned_spots(self):
        later = some("q", ("before", "p", "q"), ("bears", "q", "x"))
        earlier = some("q", ("before", "q", "p"), ("bears", "q", "x"))
        for weave in ENDLESS + tuple(many_weaves(650, XY, 4, 20)):
            for spot in spots_by_hand(weave, 3)[:20]:
                self.assertIs(so_at(XY, later, weave, spot), so_at(XY, earlier, turned_by_hand(weave), spot_turned(weave, spot)))

    def test_far_spots(self):
        def ahead(many):
            """That at least so many places stand ahead of p."""
            told, last = None, "p"
            for name in ("a", "b", "c", "d", "e")[:many]:
                told, last = (told or []) + [(name, last)], name
            formula = ("same", last, last)
            for name, beyond in reversed(told):
                formula = some(name, ("before", name, beyond), formula)
            return formula

        for many in range(1, 6):
            for at in (0, 1, many - 1, many, 40):
                self.assertIs(so_at((), ahead(many), on(A), (at,)), at >= many)
                self.assertTrue(so_at((), ahead(many), back(A), (at,)))
        self.assertIs(so_at((), ahead(2), then(A, on(A)), (1, 1)), True)
        self.assertIs(so_at((), ahead(2), then(A, on(A)), (1, 0)), False)
        self.assertIs(so_at((), ahead(5), on(then(A, A)), (2, 1)), True)
        self.assertIs(so_at((), ahead(5), on(then(A, A)), (2, 0)), False)

    def test_errors_in_order(self):
        five = some("a", some("b", some("c", some("d", some("e", ("before", "p", "e"))))))
        six = some("f", five)
        for bad in (FIRST, C, ("both", B, ("bears", "q", "x"))):
            self.assertRaises(BadLoose, so_at, ["x"], bad, None, None)
        for bad in odd_values() + BAD_SCOPES:
            self.assertRaises(BadScope, so_at, bad, six, None, None)
        for bad in odd_values() + BAD_WEAVES:
            self.assertRaises(BadWeave, so_at, XY, six, bad, None)
        for bad in odd_values() + [(0,), [0], (True,)]:
            self.assertRaises(BadSpot, so_at, XY, six, A, bad)
        self.assertRaises(BadDepth, so_at, XY, six, A, ())
        self.assertIs(so_at(scope=XY, formula=five, weave=on(A), spot=(0,)), True)
        self.assertIs(so_at(XY, B, X, ()), True)
        self.assertIs(so_at(XY, B, Y, ()), False)


class SentenceApart(TestCase):
    def check(self, scope, one, other, depth):
        told = sentence_apart(scope, one, other, depth)
        self.assertEqual(told is None, alike_to(scope, one, other, depth))
        if told is not None:
            self.assertTrue(is_rounds(told))
            self.assertEqual(loose(told), ())
            self.assertLessEqual(rounds_of(told), depth)
            self.assertLessEqual(marks_in(told), set(scope))
            self.assertIs(so(scope, told, one), True, (one, other, told))
            self.assertIs(so(scope, told, other), False, (one, other, told))
        return told

    def test_example_by_hand(self):
        self.check((), on(A), then(on(A), A), 2)
        hers = ("not", ("some", "x", ("all", "y", ("not", ("before", "x", "y")))))
        self.assertTrue(so((), hers, on(A)))
        self.assertFalse(so((), hers, then(on(A), A)))
        self.assertIsNone(sentence_apart((), on(A), then(on(A), A), 1))

    def test_rows(self):
        for one in range(9):
            for other in range(9):
                for depth in range(4):
                    self.check((), row(one), row(other), depth)

    def test_any_words(self):
        for scope in ((), ("x",), XY):
            for depth in (1, 2):
                weaves = many_weaves(651, scope, 5, 14)
                for one, other in product(weaves, repeat=2):
                    self.check(scope, one, other, depth)
        parted = 0
        for scope in ((), ("x",), XY, ("x", "y", "z")):
            weaves = many_weaves(652, scope, 4, 9)
            for one, other in product(weaves, repeat=2):
                try:
                    parted += self.check(scope, one, other, 3) is not None
                except TooMany as wrong:
                    self.assertEqual(wrong.most, 4000)
        self.assertGreater(parted, 100)

    def test_words_that_are_hard_to_part(self):
        for one, other, depth in (
            (row(6), row(7), 3), (on(A), on(on(A)), 3), (mix(A), then(mix(A), A, A, mix(A)), 3), (then(mix(A), on(A)), then(mix(A), back(A)), 3),
            (mix(X, Y), mix(X, then(X, Y)), 3), (then(X, Y, X, Y), then(X, Y, Y, X), 2), (on(then(X, Y)), on(then(X, Y, Y)), 3),
        ):
            self.assertIsNotNone(self.check(XY, one, other, depth))

    def test_none_raised_to_depth_two(self):
        random = Random(653)
        letters = letters_by_hand(XY)
        for _ in range(60):
            one, other = [
                tuple(random.choice(letters) for _ in range(20)) for _ in range(2)]
            self.check(XY, then(written(XY, one), written(XY, other)), then(written(XY, other), written(XY, one)), 2)
            moved = list(one)
            at = random.randrange(20)
            moved[at] = random.choice(letters)
            self.check(XY, written(XY, one), written(XY, tuple(moved)), 2)
        self.assertEqual(letters_in(XY, A), ((),))

    def test_errors_in_order(self):
        for bad in odd_values() + BAD_SCOPES:
            self.assertRaises(BadScope, sentence_apart, bad, None, None, None)
        for bad in odd_values() + BAD_WEAVES:
            self.assertRaises(BadWeave, sentence_apart, XY, bad, None, None)
            self.assertRaises(BadWeave, sentence_apart, XY, A, bad, None)
        for bad in odd_values() + BAD_DEPTHS + [4]:
            self.assertRaises(BadDepth, sentence_apart, XY, A, A, bad)
        self.assertIsNone(sentence_apart(scope=(), one=A, other=A, depth=3))


def marks_in(formula):
    if formula[0] == "bears":
        return {formula[2]}
    if formula[0] in ("before", "same"):
        return set()
    return set().union(*[marks_in(part) for part in (formula[2:] if formula[0] in ("some", "all") else formula[1:])])
