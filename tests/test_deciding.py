"""[44], [47], with [42], [43], [49]: whether formulas hold, what shows it, what follows."""

from itertools import product
from unittest import TestCase

from alongall.combining import contrary, meeting
from alongall.compiling import reader_of
from alongall.changing import widened
from alongall.deciding import follows, means, shown
from alongall.errors import BadFormula, BadScope, BadWeave, NoName, TooMany
from alongall.formulas import is_long
from alongall.making import without
from alongall.readers import takes
from alongall.steps import is_road
from alongall.texts import formula_of
from alongall.weaves import is_weave, written
from alongall.weighing import some_word
from tests.formulas import atoms, free_by_hand, holds, many_formulas, sets_of, told_short
from tests.odd import odd_values, spoiled
from tests.samples import A, NONE, X, Y, back, bush, letters_by_hand, many_weaves, mix, on, then
from tests.test_making import BAD_SCOPES, BAD_WEAVES, deep

XY = ("x", "y")
BOTH = ("letter", XY)
EIGHT = ("either", ("one", "x"), ("one", "y"))
FOUR = ("both", ("sub", "a", "b"), ("sub", "c", "d"))
BAD_FORMULAS = [FOUR, ("one", "all"), ("not",), ["one", "x"], ("one", "x", "y"), ("some", "x"), "one x", (), ("sub", "x")]


def too_many(ask, *given):
    """What TooMany tells; None if it is not raised."""
    try:
        ask(*given)
    except TooMany as wrong:
        return wrong.most
    return None


class Means(TestCase):
    def test_finite_words(self):
        # The scope has names that are not free, too.
        many = 0
        for formula in many_formulas(130, XY, 4, 60) + atoms(XY):
            if too_many(reader_of, formula) is not None:
                continue
            many += 1
            for long in range(4):
                for row in list(product(letters_by_hand(XY), repeat=long))[::7]:
                    right = holds(formula, long, sets_of(XY, row))
                    self.assertIs(means(formula, XY, written(XY, row)), right, (formula, row))
        self.assertGreater(many, 70)

    def test_other_names_mean_nothing(self):
        scope = ("a", "m", "x")
        for formula in many_formulas(131, ("m",), 4, 30):
            for weave in many_weaves(132, scope, 4, 5):
                rest = tuple(name for name in scope if name not in free_by_hand(formula))
                left = tuple(name for name in scope if name in free_by_hand(formula))
                self.assertIs(means(formula, scope, weave), means(formula, left, without(scope, weave, rest)))
                self.assertIs(means(formula, scope, weave), takes(reader_of(formula), without(scope, weave, rest)))

    def test_endless_and_dense_words(self):
        for text, weave, right in (
            ("well x", on(on(X)), True), ("well x", back(X), False), ("scattered x", back(on(X)), True), ("scattered x", mix(X), False),
            ("some y: (y in x & (!bare y & !some z: first z y))", back(then(A, X)), True), ("some y: first y x", mix(X), False),
            ("some y: first y x", then(on(A), X, mix(X)), True), ("x < y", then(on(X), back(Y)), True), ("finite x", mix(A, Y), True),
            ("some x: some y: next x y", mix(A), False), ("some x: some y: next x y", mix(then(A, A)), True), ("one x", then(mix(A), X, on(A)), True),
            ("all x: (bare x | some y: first y x)", on(on(A)), True), ("all x: (bare x | some y: first y x)", on(mix(A)), False),
            ("dense x", on(mix(X)), True), ("down x", then(on(X), back(Y)), True), ("next x y", then(on(A), X, Y, back(A)), True),
            ("same x y", on(BOTH), True), ("all z: (!(one z & z in x) | z in y)", on(BOTH), True), ("apart x y", mix(X, Y), True),
        ):
            self.assertIs(means(formula_of(text), XY, weave), right, (text, weave))

    def test_no_name(self):
        for formula, scope, name in (
            (("one", "x"), (), "x"), (("one", "x"), ("y",), "x"), (("sub", "z", "b"), ("a",), "b"), (("sub", "z", "b"), ("b",), "z"),
            (("sub", "y", "x"), ("a", "y"), "x"), (("some", "x", ("sub", "x", "m")), ("x",), "m"), (("both", EIGHT, ("one", "a")), ("y",), "a"),
        ):
            with self.assertRaises(NoName) as caught:
                means(formula, scope, on(A))
            self.assertEqual(caught.exception.name, name)
        self.assertIs(means(("some", "x", ("one", "x")), (), A), True)

    def test_errors_in_order(self):
        for bad in odd_values() + BAD_FORMULAS:
            self.assertRaises(BadFormula, means, bad, None, None)
        for bad in odd_values() + BAD_SCOPES:
            self.assertRaises(BadScope, means, ("one", "x"), bad, None)
        for bad in odd_values() + BAD_WEAVES:
            self.assertRaises(BadWeave, means, ("one", "q"), XY, bad)
        self.assertRaises(NoName, means, ("both", EIGHT, ("one", "z")), XY, A)
        for formula, most in ((EIGHT, 8), (told_short(("dense", "x")), 10), (("both", ("next", "x", "y"), ("one", "z")), 14)):
            self.assertEqual(too_many(means, formula, ("x", "y", "z"), A), most)
        self.assertIs(means(formula=("one", "x"), scope=("x",), weave=X), True)


class Shown(TestCase):
    def check(self, formula, scope, weave):
        """None exactly where it is due; what is told holds, and leads to the weave."""
        head, name, part = formula
        told = shown(formula, scope, weave)
        try:
            right = means(formula, scope, weave)
            self.assertEqual(told is None, right == (head == "all"), (formula, weave))
        except TooMany:
            pass
        if told is None:
            return
        marked, road = told
        inner, free = reader_of(part)[1], tuple(sorted(free_by_hand(formula)))
        self.assertTrue(is_weave(inner, marked))
        self.assertIs(means(part, inner, marked), head == "some")
        bare = without(inner, marked, (name,))
        self.assertTrue(is_road(free, bare, without(scope, weave, tuple(other for other in scope if other not in free)), road))

    def test_by_hand(self):
        for text, scope, weave, some in (
            ("some x: one x", (), NONE, False), ("some x: one x", (), A, True), ("some x: one x", (), mix(A), True),
            ("some x: one x", (), on(A), True), ("all x: one x", (), A, True), ("all x: well x", (), on(A), False),
            ("all x: well x", (), back(A), True), ("all x: well x", (), mix(A), True), ("all x: scattered x", (), back(on(A)), False),
            ("some x: (!bare x & !some y: first y x)", (), on(A), False), ("some x: (!bare x & !some y: first y x)", (), mix(A), True),
            ("some x: next x y", ("y",), then(A, Y), True), ("some x: next x y", ("y",), then(mix(A), Y), False),
            ("some x: next x y", ("y",), back(Y), False), ("some x: next y x", ("y",), then(Y, A), True),
            ("some x: first x y", ("y",), on(Y), True), ("some x: first x y", ("y",), back(Y), False),
            ("some x: (x in y & (dense x & !(one x | bare x)))", ("y",), mix(A, Y), True),
            ("some x: (x in y & (dense x & !(one x | bare x)))", ("y",), on(Y), False),
            ("all x: (!x in y | finite x)", ("y",), on(A), False), ("all x: (!x in y | finite x)", ("y",), on(Y), True),
        ):
            formula = formula_of(text)
            self.assertEqual(shown(formula, scope, weave) is not None, some, (text, weave))
            self.check(formula, scope, weave)

    def test_many(self):
        many = 0
        for part in many_formulas(133, XY, 3, 80) + atoms(XY):
            if "x" not in free_by_hand(part) or too_many(reader_of, part) is not None:
                continue
            for head in ("some", "all"):
                for weave in many_weaves(134, XY, 3, 2) + [on(Y), back(Y), mix(A, Y)]:
                    self.check((head, "x", part), XY, weave)
                    many += 1
        self.assertGreater(many, 400)

    def test_names_of_the_weave_that_do_not_count(self):
        # x of the weave and other names are left out.
        formula = ("some", "x", ("both", ("sub", "x", "y"), ("one", "x")))
        marked, road = shown(formula, ("a", "x", "y"), then(("letter", ("a", "x")), ("letter", ("a", "y"))))
        self.assertEqual((marked, road), (then(A, BOTH), ()))
        self.assertIsNone(shown(formula, ("a", "x", "y"), then(("letter", ("a", "x")), X)))
        self.check(formula, ("a", "x", "y"), on(("letter", ("a", "x", "y"))))

    def test_other_formulas(self):
        for bad in odd_values() + BAD_FORMULAS + [
            ("one", "x"), ("not", ("some", "x", ("one", "x"))), ("some", "x", ("one", "y")), ("all", "x", ("one", "y")),
            ("some", "x", ("some", "x", ("one", "x"))), ("all", "y", ("some", "x", ("one", "x"))), ("both", ("one", "x"), ("one", "x")),
            ("some", "all", ("one", "x")), ["some", "x", ("one", "x")], ("well", "x"), ("some", "x", FOUR),
        ] + list(spoiled(("some", "x", ("one", "x")))):
            self.assertRaises(BadFormula, shown, bad, None, None)

    def test_which_refusal_comes_first(self):
        formula = ("some", "x", EIGHT)
        for bad in odd_values() + BAD_SCOPES:
            self.assertRaises(BadScope, shown, formula, bad, None)
        for bad in odd_values() + BAD_WEAVES:
            self.assertRaises(BadWeave, shown, formula, ("x",), bad)
        with self.assertRaises(NoName) as caught:
            shown(formula, ("x",), on(A))
        self.assertEqual(caught.exception.name, "y")
        self.assertEqual(too_many(shown, formula, XY, on(A)), 8)
        self.assertEqual(too_many(shown, ("all", "x", told_short(("dense", "x"))), (), on(A)), 10)
        self.assertEqual(too_many(shown, formula_of("some x: (one x & some y: next x y)"), (), on(bush(301))), 400)
        self.assertEqual(too_many(shown, ("some", "x", ("one", "x")), (), deep(60)), 400)
        self.assertEqual(too_many(shown, ("some", "x", ("bare", "x")), (), deep(60)), None)
        self.assertIsNone(shown(formula=("some", "x", ("one", "x")), scope=(), weave=NONE))

    def test_what_is_small_enough_is_shown(self):
        # One marked place would be too deep, none is not.
        formula = formula_of("some x: (one x | bare x)")
        self.assertEqual(shown(formula, (), deep(60)), (deep(60), ()))
        self.assertEqual(shown(formula_of("all x: (one x & !bare x)"), (), deep(60))[0], deep(60))
        self.assertEqual(shown(formula_of("some x: (one x | bare x)"), (), on(bush(399))), (on(bush(399)), ()))

    def test_parts_are_read_not_the_whole(self):
        # The reader of the formula itself is not needed.
        part = formula_of("(x in y & y in x)")
        self.assertEqual(shown(("some", "x", part), ("y",), on(then(A, Y))), (on(then(A, BOTH)), ()))

    def test_eight_elements(self):
        part = formula_of("(next x y & !down x)")
        self.assertIsNone(too_many(reader_of, part))
        for weave in (on(Y), then(on(A), Y, back(A)), mix(A, Y), then(A, A, Y)):
            self.check(("some", "x", part), ("y",), weave)
            self.check(("all", "x", part), ("y",), weave)


class Follows(TestCase):
    def check(self, one, other):
        told = follows(one, other)
        scope = tuple(sorted(free_by_hand(one) | free_by_hand(other)))
        if told is not None:
            self.assertTrue(is_weave(scope, told))
            self.assertIs(means(one, scope, told), True)
            self.assertIs(means(other, scope, told), False)
        return told

    def test_facts(self):
        # [49]
        self.assertIsNone(follows(("well", "x"), ("scattered", "x")))
        self.assertIsNone(follows(("finite", "x"), ("well", "x")))
        self.assertIsNone(follows(("first", "x", "y"), ("sub", "x", "y")))
        self.assertIsNotNone(self.check(("scattered", "x"), ("well", "x")))

    def test_by_hand(self):
        for one, other, right in (
            ("one x", "!bare x", True), ("!bare x", "one x", False), ("next x y", "x < y", True), ("x < y", "one x", False),
            ("next x y", "(one x & one y)", True), ("(x in y & y in z)", "x in z", True), ("(x in y & z in y)", "x in z", False),
            ("finite x", "some y: (bare x | last y x)", True), ("well x", "some y: (bare x | last y x)", False), ("one x", "one x", True),
            ("(one x & !one x)", "one y", True), ("one x", "(one y | !one y)", True), ("one x", "one y", False), ("down x", "x in x", True),
            ("all x: well x", "all x: scattered x", True), ("all x: scattered x", "all x: well x", False), ("bare x", "dense x", True),
            ("(dense x & well x)", "(bare x | one x)", True), ("(dense x & scattered x)", "(bare x | one x)", True),
            ("dense x", "(bare x | one x)", False), ("(x < y & one y)", "x < y", True), ("x < y", "(x < y & one y)", False),
        ):
            self.assertEqual(self.check(formula_of(one), formula_of(other)) is None, right, (one, other))

    def test_atoms(self):
        many = 0
        for one, other in list(product(atoms(XY), repeat=2))[::13] + list(product(atoms(("x",)), atoms(("a", "y")))):
            if too_many(follows, one, other) is None:
                told = self.check(one, other)
                many += 1
                for long in range(3):
                    scope = tuple(sorted(free_by_hand(one) | free_by_hand(other)))
                    for row in product(letters_by_hand(scope), repeat=long):
                        sets = sets_of(scope, row)
                        if holds(one, long, sets) and not holds(other, long, sets):
                            self.assertIsNotNone(told)
        self.assertGreater(many, 150)

    def test_equal_ones(self):
        for formula in atoms(XY) + many_formulas(135, XY, 3, 30):
            if is_long(formula) and too_many(follows, formula, formula) is None:
                self.assertIsNone(follows(formula, formula))

    def test_as_readers(self):
        for one, other in list(product(atoms(XY)[::2], repeat=2))[::4]:
            scope = tuple(sorted(free_by_hand(one) | free_by_hand(other)))
            try:
                right = some_word(meeting(widened(reader_of(one), scope), contrary(widened(reader_of(other), scope))))
            except TooMany as wrong:
                self.assertEqual(too_many(follows, one, other), wrong.most)
                continue
            self.assertEqual(follows(one, other) is None, right is None)

    def test_errors_in_order(self):
        for bad in odd_values() + BAD_FORMULAS:
            self.assertRaises(BadFormula, follows, bad, None)
            self.assertRaises(BadFormula, follows, ("one", "x"), bad)
        self.assertRaises(BadScope, follows, ("sub", "a", "b"), ("sub", "c", "d"))
        self.assertRaises(BadScope, follows, EIGHT, ("sub", "c", "d"))
        self.assertRaises(BadScope, follows, ("both", ("next", "x", "y"), ("one", "z")), ("one", "w"))
        self.assertIsNone(follows(one=("some", "c", ("sub", "a", "c")), other=("sub", "b", "b")))
        self.assertIsNone(follows(("both", ("sub", "a", "b"), ("sub", "b", "c")), ("sub", "a", "c")))

    def test_too_many_in_order(self):
        ten = told_short(("dense", "x"))
        fourteen = ("both", ("next", "x", "y"), ("one", "z"))
        for one, other, most in (
            (EIGHT, ten, 8), (ten, EIGHT, 10), (("one", "x"), ten, 10), (fourteen, ten, 14), (ten, fourteen, 10),
            (("next", "x", "y"), ("one", "z"), 14), (("not", ("one", "x")), ("one", "y"), 8), (("one", "z"), ("next", "x", "y"), 14),
        ):
            self.assertEqual(too_many(follows, one, other), most, (one, other))
