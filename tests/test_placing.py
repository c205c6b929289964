"""[45]: weaves with a mark where a formula holds."""

from itertools import product
from unittest import TestCase

from alongall.algebras import is_algebra
from alongall.building import flipped
from alongall.compiling import reader_of
from alongall.deciding import means
from alongall.errors import BadFormula, BadName, BadScope, BadWeave, NoName, TooMany
from alongall.making import without
from alongall.placing import Placing, where
from alongall.texts import formula_of
from alongall.weaves import is_weave, size, written
from tests.formulas import atoms, free_by_hand, holds, many_formulas, sets_of, told_short
from tests.odd import odd_values
from tests.samples import (
    A, NONE, X, Y, back, bush, letters_by_hand, many_weaves, mix, on, parts_by_hand, table_by, then, turned_by_hand,
)
from tests.test_deciding import BAD_FORMULAS
from tests.test_making import BAD_SCOPES, BAD_WEAVES, deep

XY = ("x", "y")
BOTH = ("letter", XY)


class Teller:
    """The document's words, part by part."""

    def __init__(self, formula, name):
        _, self.scope, self.algebra, self.starts, self.taken = reader_of(formula)
        self.name = name

    def then(self, *row):
        whole = 0
        for a in row:
            whole = self.algebra[2][whole][a]
        return whole

    def value(self, weave):
        head = weave[0]
        if head == "none":
            return 0
        if head == "letter":
            return self.starts[letters_by_hand(self.scope).index(weave[1])]
        parts = [self.value(part) for part in parts_by_hand(weave)]
        if head == "then":
            return self.then(*parts)
        if head == "mix":
            return self.algebra[5][sum(1 << a for a in set(parts))]
        return self.algebra[3 if head == "on" else 4][parts[0]]

    def told(self, weave, left, right):
        head = weave[0]
        if head == "none":
            return weave
        if head == "letter":
            marked = ("letter", tuple(sorted(weave[1] + (self.name,))))
            return marked if self.then(left, self.value(marked), right) in self.taken else weave
        if head == "then":
            _, e, f = weave
            return ("then", self.told(e, left, self.then(self.value(f), right)), self.told(f, self.then(left, self.value(e)), right))
        if head == "mix":
            m = self.value(weave)
            return mix(*[self.told(part, self.then(left, m), self.then(m, right)) for part in weave[1]])
        e, worth = weave[1], self.value(weave[1])
        if head == "on":
            b, row = self.then(self.value(weave), right), [left]
            while row[-1] not in row[:-1]:
                row.append(self.then(row[-1], worth))
        else:
            b, row = self.then(left, self.value(weave)), [right]
            while row[-1] not in row[:-1]:
                row.append(self.then(worth, row[-1]))
        n = len(row) - 1
        m = row.index(row[n])
        if head == "on":
            copies = [self.told(e, row[i], b) for i in range(n)]
            return then(*copies[:m], on(then(*copies[m:])))
        copies = [self.told(e, b, row[i]) for i in range(n)]
        return then(back(then(*[copies[i] for i in range(n - 1, m - 1, -1)])), *[copies[i] for i in range(m - 1, -1, -1)])


def too_many(ask, *given):
    try:
        ask(*given)
    except TooMany as wrong:
        return wrong.most
    return None


class Where(TestCase):
    def test_by_hand(self):
        # A place with one behind it; a first one, a last one; places with y.
        for text, scope, weave, right in (
            ("some y: (one y & x < y)", (), on(A), then(X, on(X))), ("some y: (one y & x < y)", (), then(A, A, A), then(X, X, A)),
            ("some y: (one y & x < y)", (), NONE, NONE), ("some y: (one y & x < y)", (), A, A), ("some y: (one y & x < y)", (), mix(A), mix(X)),
            ("(one x & all y: (!one y | (same x y | x < y)))", (), then(A, A), then(X, A)),
            ("(one x & all y: (!one y | (same x y | x < y)))", (), on(A), then(X, on(A))),
            ("(one x & all y: (!one y | (same x y | x < y)))", (), mix(A), mix(A)),
            ("(one x & all y: (!one y | (same x y | y < x)))", (), back(A), ("then", back(A), X)),
            ("x in y", ("y",), then(A, Y), then(A, BOTH)), ("!x in y", ("y",), mix(A, Y), mix(X, Y)), ("x in x", (), mix(A), mix(X)),
            ("first x y", ("y",), then(A, Y, Y), then(A, BOTH, Y)), ("last x y", ("y",), then(Y, Y, A), then(Y, BOTH, A)),
        ):
            self.assertEqual(where(formula_of(text), "x", scope, weave), right, (text, weave))

    def test_word_for_word(self):
        many = 0
        for formula in atoms(XY) + many_formulas(150, XY, 4, 80):
            free = free_by_hand(formula)
            if "x" not in free or too_many(reader_of, formula) is not None:
                continue
            teller = Teller(formula, "x")
            rest = tuple(name for name in XY if name not in free or name == "x")
            for weave in many_weaves(151, XY, 4, 5) + [on(A), back(Y), mix(A, Y), on(then(A, Y)), back(on(Y))]:
                bare = without(XY, weave, rest)
                right = teller.told(bare, 0, 0)
                if size(tuple(sorted(free)), right) <= 400:
                    many += 1
                    self.assertEqual(where(formula, "x", XY, weave), right, (formula, weave))
        self.assertGreater(many, 300)

    def test_places_of_finite_words(self):
        for formula in atoms(XY) + many_formulas(152, XY, 3, 40):
            free = tuple(sorted(free_by_hand(formula)))
            if "x" not in free or too_many(reader_of, formula) is not None:
                continue
            rest = tuple(name for name in free if name != "x")
            for row in product(letters_by_hand(rest), repeat=3):
                sets = sets_of(rest, row)
                right = []
                for place, letter in enumerate(row):
                    marked = holds(formula, 3, {**sets, "x": {place}})
                    right.append(tuple(sorted(letter + ("x",))) if marked else letter)
                self.assertEqual(where(formula, "x", rest, written(rest, row)), written(free, tuple(right)))

    def test_heart_where(self):
        # all p: f says of a single place p that it bears the mark exactly if the formula holds of it.
        for text in ("some y: next x y", "some y: next y x", "some y: (one y & x < y)", "first x y", "next x y", "x in y", "!x in y", "y < x"):
            formula = formula_of(text)
            of_p = formula_of("".join("p" if sign == "x" and not text[at - 1:at + 2] == "nex" and text[at:at + 2] != "xt" else sign
                                      for at, sign in enumerate(text)))
            rule = ("all", "p", ("either", ("not", ("one", "p")), ("either", ("both", ("sub", "p", "x"), of_p), (
                "both", ("not", ("sub", "p", "x")), ("not", of_p)))))
            free = tuple(sorted(free_by_hand(formula)))
            rest = tuple(name for name in free if name != "x")
            for weave in many_weaves(153, rest, 4, 12):
                told = where(formula, "x", rest, weave)
                try:
                    self.assertIs(means(rule, free, told), True)
                except TooMany:
                    continue

    def test_rows_of_on_and_back(self):
        # The copies part one by one, then all are alike.
        second = formula_of("some y: next y x")
        second_last = formula_of("some y: (next x y & all z: (!one z | (z < y | same z y)))")
        second_first = formula_of("some y: (next y x & all z: (!one z | (y < z | same z y)))")
        for formula, weave, right in (
            (second_last, back(A), ("then", back(A), ("then", X, A))), (second_last, on(A), then(A, A, on(A))), (second_first, on(A), then(A, X, on(A))),
            (second_first, back(A), then(back(A), A, A)), (second, on(A), then(A, on(X))), (second, back(A), then(back(X), X)),
            (second_first, on(on(A)), then(then(A, X, on(A)), on(on(A)))), (second_last, back(back(A)), ("then", back(back(A)), then(back(A), X, A))),
            (second_first, then(A, A), then(A, X)), (second_last, then(A, A), then(X, A)), (second_last, then(A, A, A), then(A, X, A)),
        ):
            self.assertEqual(where(formula, "x", (), weave), right, weave)
        for formula in (second, second_last, second_first):
            teller = Teller(formula, "x")
            for weave in (on(back(A)), then(on(A), A), mix(A, on(A)), back(then(A, A)), on(then(A, A)), back(on(A)), then(A, back(A), A)):
                self.assertEqual(where(formula, "x", (), weave), teller.told(weave, 0, 0))
        self.assertEqual(where(second, "x", (), mix(A, then(A, A))), mix(A, then(A, X)))

    def test_rows_that_come_again(self):
        # A reader of words with one x, as many places ahead of it as make an even number: copies go by twos.
        table = table_by(7, even_then, lambda a: 0 if a == 0 else 3 if a < 4 else 6, lambda a: 0 if a == 0 else 3 if a < 4 else 6, even_mix)
        self.assertTrue(is_algebra(table))
        reader = ("reader", ("x",), table, (1, 4), (4,))
        placing = Placing(reader, "x")
        self.assertEqual(placing.told(on(A), 0, 0), then(X, on(then(A, X))))
        self.assertEqual(placing.told(on(then(A, A)), 0, 0), then(then(X, A), on(then(X, A))))
        self.assertEqual(placing.told(on(then(A, A, A)), 0, 0), then(then(X, A, X), on(then(then(A, X, A), then(X, A, X)))))
        self.assertEqual(placing.told(then(A, on(A)), 0, 0), then(X, on(then(A, X))))
        self.assertEqual(placing.told(back(A), 0, 0), then(back(then(A, A)), A))
        other = Placing(("reader", ("x",), flipped(table), (1, 4), (4,)), "x")
        self.assertEqual(other.told(back(A), 0, 0), ("then", back(then(X, A)), X))
        self.assertEqual(other.told(back(then(A, A, A)), 0, 0), ("then", back(then(then(X, A, X), then(A, X, A))), then(X, A, X)))
        self.assertEqual(other.told(on(A), 0, 0), then(A, on(then(A, A))))

    def test_names_that_are_left_out(self):
        formula = formula_of("(x in y & some z: z in z)")
        for weave in many_weaves(154, ("a", "x", "y"), 4, 20):
            self.assertEqual(
                where(formula, "x", ("a", "x", "y"), weave), where(formula, "x", ("y",), without(("a", "x", "y"), weave, ("a", "x"))))
        self.assertEqual(where(formula, "x", ("x", "y"), then(X, BOTH)), then(A, BOTH))
        self.assertEqual(where(formula_of("y in x"), "y", ("x", "y"), then(Y, X)), then(A, BOTH))

    def test_mix_parts_once(self):
        formula = formula_of("some y: (one y & x < y)")
        for weave in (mix(on(A), then(A, on(A))), mix(A, then(A, NONE))):
            self.assertEqual(where(formula, "x", (), weave), Teller(formula, "x").told(weave, 0, 0))
        formula = ("sub", "x", "x")
        told = where(formula, "x", (), mix(on(A), then(A, on(A)), back(A)))
        self.assertTrue(is_weave(("x",), told))

    def test_turned(self):
        for formula in (("first", "x", "y"), ("next", "x", "y"), ("sub", "x", "y")):
            other = {"first": ("last", "x", "y"), "next": ("next", "y", "x"), "sub": formula}[formula[0]]
            for weave in many_weaves(155, ("y",), 3, 10, ("letter", "then", "mix", "none")):
                self.assertEqual(where(other, "x", ("y",), turned_by_hand(weave)), turned_by_hand(where(formula, "x", ("y",), weave)))

    def test_too_many(self):
        formula = formula_of("(one x & all y: (!one y | (same x y | x < y)))")
        self.assertEqual(too_many(where, formula, "x", (), on(bush(301))), 400)
        self.assertEqual(too_many(where, formula, "x", (), deep(60)), 400)
        self.assertEqual(too_many(where, ("sub", "x", "x"), "x", (), deep(60)), None)
        self.assertEqual(too_many(where, ("sub", "x", "x"), "x", (), bush(399)), None)

    def test_nodes_and_depth_to_the_bound(self):
        formula = formula_of("(one x & all y: (!one y | (same x y | x < y)))")
        teller = Teller(formula, "x")
        for many in range(181, 205, 2):
            weave = on(bush(many))
            right = size(("x",), teller.told(weave, 0, 0)) if many < 199 else 2 * many + 2
            self.assertEqual(too_many(where, formula, "x", (), weave), 400 if right > 400 else None, many)
        last = formula_of("(one x & all y: (!one y | (same x y | y < x)))")
        for many in range(55, 59):
            weave = then(*[A] * many, back(A))
            self.assertEqual(depth(weave), many + 2)
            self.assertEqual(too_many(where, last, "x", (), weave), 60 if many == 58 else None)
        # Of both bounds that on nodes comes first.
        for many, right in ((281, 60), (283, 400)):
            weave = ("then", bush(many), then(*[A] * 57, back(A)))
            self.assertEqual((size((), weave), depth(weave)), (many + 117, 60))
            self.assertEqual(too_many(where, last, "x", (), weave), right)

    def test_errors_in_order(self):
        eight = ("either", ("one", "x"), ("one", "y"))
        for bad in odd_values() + BAD_FORMULAS:
            self.assertRaises(BadFormula, where, bad, None, None, None)
        for bad in odd_values() + ["z", "", "X", ("x",), 0, "all"]:
            self.assertRaises(BadName, where, eight, bad, None, None)
        self.assertRaises(BadName, where, ("some", "x", eight), "x", (), A)
        for bad in odd_values() + BAD_SCOPES:
            self.assertRaises(BadScope, where, eight, "x", bad, None)
        for bad in odd_values() + BAD_WEAVES:
            self.assertRaises(BadWeave, where, eight, "x", ("x",), bad)
        for formula, name, scope, lacking in (
            (eight, "x", (), "y"), (eight, "y", ("y",), "x"), (eight, "x", ("x",), "y"), (("both", eight, ("one", "a")), "x", (), "a"),
            (("both", eight, ("one", "a")), "a", (), "x"), (("both", eight, ("one", "a")), "x", ("a",), "y"),
        ):
            with self.assertRaises(NoName) as caught:
                where(formula, name, scope, on(A))
            self.assertEqual(caught.exception.name, lacking)
        self.assertEqual(too_many(where, eight, "x", ("y",), deep(60)), 8)
        self.assertEqual(too_many(where, told_short(("dense", "x")), "x", (), A), 10)
        self.assertEqual(where(formula=("one", "x"), name="x", scope=(), weave=on(A)), where(("one", "x"), "x", (), on(A)))


def even_then(a, b):
    """Numbers of places: none, odd, even, endless; then x with an even number ahead, an odd one, others with x."""
    if a == 0 or b == 0:
        return a + b
    if a < 4 and b < 4:
        return 3 if 3 in (a, b) else 2 - (a + b) % 2
    if a >= 4:
        return 6 if b >= 4 else a
    return b if a == 2 else 9 - b if a == 1 and b < 6 else 6


def even_mix(lot):
    return 6 if any(a >= 4 for a in lot) else 3 if any(lot) else 0


def depth(weave):
    return 1 + max((depth(part) for part in parts_by_hand(weave)), default=0)
