"""[61]: words with a mark where a places formula holds."""

from unittest import TestCase

from alongall.errors import BadName, BadPlaced, BadScope, BadWeave, TooMany
from alongall.making import turned, without
from alongall.marking import marked
from alongall.placed import mirrored, there
from alongall.views import alike_to
from alongall.weaves import is_weave, letters_in, size, spelled, written
from tests.odd import odd_values
from tests.oracles import Places, row_holds
from tests.samples import A, NONE, X, Y, back, bush, many_weaves, mix, on, parts_by_hand, spots_by_hand, then
from tests.test_fullwords import BAD_PLACED
from tests.test_making import BAD_SCOPES, BAD_WEAVES, deep
from tests.test_placed import MX, MY, TRUE, many_placed, since, until

XY = ("x", "y")
FLAT = ("none", "letter", "letter", "then", "then", "then")


def marks_named(formula, old, new):
    if formula[0] == "mark":
        return ("mark", new) if formula[1] == old else formula
    return (formula[0],) + tuple(marks_named(part, old, new) for part in formula[1:])


def flat_weaves(seed, scope, many):
    """Weaves in which no on, back or mix stands in another one, of at most 20 nodes."""
    found = []
    parts = [weave for weave in many_weaves(seed, scope, 3, 6 * many, FLAT)]
    for at in range(many):
        one, other, third = parts[6 * at:6 * at + 3]
        pieces = [on(one), back(other), mix(third, other), one, third]
        whole = then(*pieces[at % 3:][:2 + at % 2])
        if size(scope, whole) <= 20:
            found.append(whole)
    return found


class Marked(TestCase):
    def check(self, scope, formula, weave, name="z", most=3):
        told = marked(scope, formula, weave, name)
        wide = tuple(sorted(scope + (name,)))
        self.assertTrue(is_weave(wide, told))
        # The mark is at just the places at which the formula holds; what it says of this name is said of no mark.
        asked = marks_named(formula, name, "nowhere")
        for spot in spots_by_hand(told, most):
            bears = there(wide, ("mark", name), told, spot)
            self.assertEqual(bears, there(wide, asked, told, spot) if len(wide) < 4 else None, (formula, weave, spot))
        plain = without(wide, told, (name,))
        if size(scope, plain) < 60:
            self.assertTrue(alike_to(scope, plain, weave, 3), (formula, weave, told))
        return told

    def test_example_by_hand(self):
        # [66]
        told = marked(XY, until(MX, MY), back(then(X, Y)), "z")
        xz, yz, y = ("letter", ("x", "z")), ("letter", ("y", "z")), ("letter", ("y",))
        wide = ("x", "y", "z")
        self.assertTrue(alike_to(wide, told, then(back(then(xz, yz)), then(xz, y)), 5))
        self.check(XY, until(MX, MY), back(then(X, Y)))

    def test_finite_words(self):
        for formula in many_placed(560, 4, 60):
            for weave in many_weaves(561, XY, 4, 4, FLAT):
                row = spelled(XY, weave)
                told = marked(XY, formula, weave, "z")
                right = tuple(tuple(sorted(letter + ("z",))) if row_holds(formula, row, at) else letter for at, letter in enumerate(row))
                self.assertEqual(spelled(("x", "y", "z"), told), right)

    def test_by_spots(self):
        # there at the spots of the weave, letter by letter, where these are told by the same numbers.
        for formula in many_placed(562, 4, 40):
            places = [(weave, Places(weave)) for weave in (on(then(X, Y)), back(then(Y, A)), mix(X, then(Y, A)))]
            for weave, slow in places:
                for spot in spots_by_hand(weave, 5):
                    self.assertIs(there(XY, formula, weave, spot), slow.holds(formula, spot))
                self.check(XY, formula, weave)

    def test_any_weave(self):
        many = 0
        for formula in many_placed(563, 4, 50):
            for weave in many_weaves(564, XY, 4, 5):
                try:
                    self.check(XY, formula, weave, most=1)
                    many += 1
                except TooMany:
                    pass
        self.assertGreater(many, 200)

    def test_looks_in_one_another(self):
        for formula in (
            until(TRUE, since(TRUE, MX)), since(MX, until(MX, MY)), until(until(MX, MY), MY), since(since(TRUE, MX), MX),
            until(TRUE, ("not", until(TRUE, TRUE))), since(TRUE, until(MX, since(MY, until(TRUE, MX)))), ("not", until(TRUE, TRUE)), TRUE,
            until(MX, until(MX, until(MX, until(MX, until(MX, until(MX, MY)))))),
        ):
            for weave in (
                NONE, A, X, on(X), back(X), mix(X), on(then(X, Y)), back(then(X, Y)), mix(X, Y), mix(A, X, then(X, Y)), then(on(X), Y, back(X)),
                on(back(X)), back(on(then(X, Y))), mix(on(X), back(Y)), on(mix(X, Y)), then(mix(X), Y, mix(X)), on(on(then(X, Y))), mix(NONE), on(NONE),
            ):
                self.check(XY, formula, weave)

    def test_names(self):
        a = ("letter", ("a",))
        self.assertEqual(marked((), TRUE, A, "x"), X)
        self.assertEqual(marked((), MX, A, "x"), A)
        self.assertEqual(marked((), ("not", MX), A, "x"), X)
        self.assertEqual(marked(("x",), ("mark", "a"), then(X, A), "a"), then(X, A))
        self.assertEqual(marked(("x",), ("not", ("mark", "a")), A, "a"), a)
        self.assertEqual(marked(("x",), ("not", ("mark", "b")), then(X, A), "a"), then(("letter", ("a", "x")), a))
        self.assertEqual(marked(("a", "x"), MX, X, "m"), ("letter", ("m", "x")))
        self.assertEqual(marked(scope=("x",), formula=MX, weave=then(X, A), name="y"), then(("letter", XY), A))
        for formula in many_placed(565, 3, 30):
            self.check(("x",), formula, on(then(X, A)), "w")
            self.check(("x",), formula, back(mix(X, A)), "y")

    def test_none_raised(self):
        for formula in many_placed(566, 5, 60):
            for weave in flat_weaves(567, XY, 18):
                told = marked(XY, formula, weave, "z")
                self.assertTrue(is_weave(("x", "y", "z"), told))
        six = until(TRUE, until(MX, until(TRUE, until(MX, until(TRUE, until(MY, MX))))))
        for part in (bush(17), then(*[X, Y] * 4, X), bush(19)):
            for weave in (on(part), back(part)):
                if size(XY, weave) <= 20:
                    self.check(XY, six, weave)
                    self.check(XY, mirrored(six), weave)
                    self.check(XY, six, then(weave) if size(XY, weave) > 18 else then(weave, X))

    def test_turned(self):
        for formula in many_placed(568, 4, 20):
            for weave in many_weaves(569, XY, 3, 5):
                one = marked(XY, formula, weave, "z")
                other = marked(XY, mirrored(formula), turned(XY, weave), "z")
                self.assertTrue(alike_to(("x", "y", "z"), turned(("x", "y", "z"), one), other, 3))

    def test_same_where_it_is_the_same(self):
        for weave in many_weaves(570, XY, 4, 20):
            told = marked(XY, TRUE, weave, "z")
            self.assertTrue(all("z" in letter for letter in letters_in(("x", "y", "z"), told)))
            self.assertEqual(without(("x", "y", "z"), told, ("z",)), weave)
            self.assertEqual(marked(XY, ("not", TRUE), weave, "z"), weave)

    def test_too_many(self):
        def six(goal):
            told = goal
            for _ in range(6):
                told = until(("not", MX), ("both", MX, told))
            return told

        many = 0
        row = then(X, *[A] * 30)
        for weave in (on(on(on(row))), back(back(back(row))), on(back(on(back(row)))), on(bush(399))):
            for formula in (six(MX), mirrored(six(MX)), until(TRUE, MX)):
                try:
                    told = marked(("x",), formula, weave, "z")
                    self.assertTrue(is_weave(("x", "z"), told))
                except TooMany as wrong:
                    self.assertIn(wrong.most, (400, 60))
                    many += 1
        self.assertGreater(many, 0)
        # Deep ones whose parts are all unlike.
        weave = A
        for _ in range(59):
            weave = back(weave) if many % 2 else on(weave)
            many += 1
        try:
            self.assertTrue(is_weave(("z",), marked((), since(TRUE, since(TRUE, since(TRUE, TRUE))), weave, "z")))
        except TooMany as wrong:
            self.assertIn(wrong.most, (400, 60))

    def test_errors_in_order(self):
        for bad in odd_values() + list(BAD_PLACED):
            self.assertRaises(BadPlaced, marked, ["x"], bad, None, None)
        for bad in odd_values() + BAD_SCOPES:
            self.assertRaises(BadScope, marked, bad, MX, None, None)
        for bad in odd_values() + BAD_WEAVES:
            self.assertRaises(BadWeave, marked, XY, MX, bad, "x")
        for bad in odd_values() + ["x", "y", "", "all", "Z", "nine" * 3, b"z", ("z",), ["z"]]:
            self.assertRaises(BadName, marked, XY, MX, deep(60), bad)
        self.assertRaises(BadName, marked, ("x", "y", "z"), MX, A, "w")
        self.assertRaises(BadName, marked, ("x", "y", "z"), MX, A, "x")
        self.assertEqual(written((), ((),)), A)
        self.assertEqual(parts_by_hand(A), ())
