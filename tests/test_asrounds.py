"""[62], with [53]: places formulas told as rounds formulas."""

from unittest import TestCase

from alongall.asrounds import as_rounds
from alongall.errors import BadName, BadPlaced
from alongall.placed import names_of, there
from alongall.weaves import spelled
from alongall.words import is_name
from tests.odd import odd_values
from tests.oracles import round_holds
from tests.samples import many_weaves, places_in_order, then, A, X, Y
from tests.test_placed import MX, MY, many_placed, nots, since, until

XY = ("x", "y")


def count_nodes(formula):
    return 1 + sum(count_nodes(part) for part in parts(formula))


def depth(formula):
    return 1 + max([depth(part) for part in parts(formula)], default=0)


def parts(formula):
    """The parts of a rounds formula; an error if it is none by [53]."""
    head = formula[0]
    if head in ("bears", "before", "same"):
        assert len(formula) == 3 and is_name(formula[1]) and is_name(formula[2])
        return ()
    if head in ("some", "all"):
        assert len(formula) == 3 and is_name(formula[1])
        return formula[2:]
    assert len(formula) == {"not": 2, "both": 3, "either": 3}[head]
    return formula[1:]


def free_places(formula):
    head = formula[0]
    if head == "bears":
        return {formula[1]}
    if head in ("before", "same"):
        return {formula[1], formula[2]}
    free = set()
    for part in parts(formula):
        free |= free_places(part)
    return free - {formula[1]} if head in ("some", "all") else free


def names_in(formula):
    """A pair: the names that stand for places, and those that stand for marks."""
    head = formula[0]
    if head == "bears":
        return {formula[1]}, {formula[2]}
    if head in ("before", "same"):
        return set(formula[1:]), set()
    places = {formula[1]} if head in ("some", "all") else set()
    marks = set()
    for part in parts(formula):
        more = names_in(part)
        places, marks = places | more[0], marks | more[1]
    return places, marks


class AsRounds(TestCase):
    def check_shape(self, formula, name):
        told = as_rounds(formula, name)
        places, marks = names_in(told)
        self.assertEqual(free_places(told), {name})
        self.assertEqual(marks, set(names_of(formula)))
        self.assertEqual(places & marks, set())
        self.assertLessEqual(count_nodes(told), 4000)
        self.assertLessEqual(depth(told), 60)
        return told

    def test_shapes(self):
        for formula in many_placed(50, 5, 150):
            for name in ("p", "a", "b", "firstly"):
                self.check_shape(formula, name)

    def test_names_of_places_are_no_marks(self):
        for marks in (("a", "b", "c"), ("b", "c", "d"), ("a", "c", "e")):
            one, two, three = [("mark", mark) for mark in marks]
            for name in ("z", "d", "a", "f"):
                if name not in marks:
                    self.check_shape(until(since(one, two), until(three, one)), name)

    def test_deep_ones(self):
        chain = MX
        for _ in range(6):
            chain = ("not", until(chain, MY))
        self.check_shape(nots(41, chain), "p")
        # As deep as it can come: six until, and as many not and both as there is room for.
        for boths, nothing in ((14, 19), (13, 19), (15, 17), (0, 47), (23, 1)):
            deep = MX
            for number in range(max(boths, 6)):
                if number < 6:
                    deep = until(deep, MY) if number % 2 else since(deep, MX)
                if nothing > number:
                    deep = ("not", deep)
                if number < boths:
                    deep = ("both", MY, deep)
                if nothing > 20 + number:
                    deep = ("not", deep)
            self.check_shape(deep, "p")
        wide = MX
        for _ in range(29):
            wide = ("not", ("both", MY, wide[1] if wide[0] == "not" else wide))
        self.check_shape(wide, "p")

    def test_same_places_of_finite_words(self):
        formulas = many_placed(51, 3, 60) + many_placed(52, 4, 20)
        for at, weave in enumerate(many_weaves(53, XY, 4, 80, ("none", "letter", "then", "then", "then"))):
            row = spelled(XY, weave)
            for formula in (formulas[at], formulas[(at + 7) % 60]):
                told = as_rounds(formula, "p")
                for place, spot in enumerate(places_in_order(weave)):
                    self.assertIs(round_holds(told, row, {"p": place}), there(XY, formula, weave, spot))

    def test_each_kind(self):
        weave = then(A, X, Y, X, X, Y, A, A)
        row = spelled(XY, weave)
        for formula in (
            MX, ("not", MX), ("both", MX, ("not", MY)), ("either", MX, MY), ("not", ("both", MX, MY)),
            ("not", ("either", MX, MY)), until(MX, MY), since(MX, MY), ("not", until(MX, MY)), until(MX, MX),
            until(("not", MY), since(MX, MY)), since(until(MX, MY), MY), ("not", ("not", since(MX, ("not", MY)))),
        ):
            told = as_rounds(formula, "b")
            for place, spot in enumerate(places_in_order(weave)):
                self.assertIs(round_holds(told, row, {"b": place}), there(XY, formula, weave, spot), formula)

    def test_errors(self):
        for bad in odd_values() + [nots(60, MX)]:
            self.assertRaises(BadPlaced, as_rounds, bad, "p")
            self.assertRaises(BadPlaced, as_rounds, bad, None)
            self.assertRaises(BadName, as_rounds, MX, bad)
        for bad in ("x", "y", "all", "P", "", "abcdefghi", ("p",), b"p"):
            self.assertRaises(BadName, as_rounds, until(MX, MY), bad)
        as_rounds(MX, "y")
        as_rounds(formula=MX, name="y")
