"""[77]: words put in for letters."""

from unittest import TestCase

from alongall.algebras import value
from alongall.errors import BadFills, BadReader, BadScope, BadWeave, TooMany
from alongall.filling import filled, woven
from alongall.readers import is_reader, takes
from alongall.weaves import is_weave
from tests.odd import odd_values, spoiled
from tests.samples import A, NONE, X, Y, back, bush, letters_by_hand, many_weaves, mix, on, parts_by_hand, tallied, then
from tests.test_making import BAD_SCOPES, BAD_WEAVES, deep
from tests.test_readers import ONE_X, many_readers

XY = ("x", "y")
XYZ = ("x", "y", "z")


def woven_by_hand(scope, weave, fills):
    if weave[0] == "letter":
        return fills[letters_by_hand(scope).index(weave[1])]
    if weave[0] == "none":
        return weave
    parts = [woven_by_hand(scope, part, fills) for part in parts_by_hand(weave)]
    return mix(*parts) if weave[0] == "mix" else (weave[0],) + tuple(parts)


def fills_for(seed, scope, other):
    return tuple(many_weaves(seed, other, 3, 1 << len(scope)))


class Woven(TestCase):
    def test_by_hand(self):
        for weave, fills, right in (
            (NONE, (A, A), NONE), (A, (X, Y), X), (X, (X, Y), Y), (X, (NONE, NONE), NONE), (then(A, X, A), (Y, on(X)), then(Y, on(X), Y)),
            (mix(A, X), (Y, Y), mix(Y)), (mix(A, X), (Y, X), mix(X, Y)), (mix(A, X), (on(A), back(A)), mix(on(A), back(A))),
            (mix(on(A), on(X), X), (A, A), mix(on(A), A)), (mix(mix(A), mix(X), mix(A, X)), (A, A), mix(mix(A))),
            (on(then(X, X)), (A, then(X, Y)), on(then(then(X, Y), then(X, Y)))), (mix(A, X), (NONE, X), mix(NONE, X)),
        ):
            told = woven(("x",), weave, XY, fills)
            self.assertEqual(told, right, (weave, fills))
            self.assertTrue(is_weave(XY, told))

    def test_other_scopes(self):
        a = ("letter", ("a",))
        self.assertEqual(woven((), on(A), ("a",), (a,)), on(a))
        self.assertEqual(woven(("a",), then(A, a), (), (NONE, on(A))), then(NONE, on(A)))
        self.assertEqual(woven(scope=XY, weave=then(X, Y), other=("y",), fills=(A, Y, A, Y)), then(Y, A))
        for number, letter in enumerate(letters_by_hand(XYZ)):
            fills = tuple(("letter", ("a",)) if at == number else NONE for at in range(8))
            self.assertEqual(woven(XYZ, ("letter", letter), ("a",), fills), a)

    def test_any_weave(self):
        for scope in ((), ("x",), XY):
            for other in ((), ("y",), ("a", "x")):
                fills = fills_for(500, scope, other)
                for weave in many_weaves(501, scope, 4, 20):
                    try:
                        told = woven(scope, weave, other, fills)
                    except TooMany:
                        continue
                    self.assertEqual(told, woven_by_hand(scope, weave, fills))
                    self.assertTrue(is_weave(other, told))

    def test_too_many(self):
        # bush(2 n - 1) has n letters; 67 letters of 5 nodes, and 66 that hold them, are 401.
        row = bush(199)
        four = on(on(on(A)))
        for weave, fill, most in (
            (bush(399), A, None), (bush(399), on(A), 400), (bush(131), on(four), None), (bush(133), on(four), 400),
            (row, on(on(A)), None), (row, four, 400), (deep(30), deep(31), None), (deep(30), deep(32), 60), (deep(60), A, None),
            (deep(60), on(A), 60), (then(deep(40), bush(301)), deep(30), 400), (deep(40), then(deep(30), bush(301)), 60),
            (on(bush(199)), deep(3), None), (on(on(bush(199))), deep(3), 400),
        ):
            if most is None:
                self.assertTrue(is_weave((), woven((), weave, (), (fill,))))
            else:
                with self.assertRaises(TooMany) as caught:
                    woven((), weave, (), (fill,))
                self.assertEqual(caught.exception.most, most, (weave, fill))

    def test_equal_parts_are_counted_once(self):
        # What is counted is what comes, equal parts once.
        wide = mix(*[then(*[X if bit else A for bit in bits]) for bits in ((0, 0), (0, 1), (1, 0), (1, 1))])
        self.assertEqual(woven(("x",), wide, (), (bush(99), bush(99))), mix(then(bush(99), bush(99))))
        self.assertRaises(TooMany, woven, ("x",), wide, (), (bush(99), bush(97)))

    def test_errors_in_order(self):
        for bad in odd_values() + BAD_SCOPES:
            self.assertRaises(BadScope, woven, bad, None, None, None)
            self.assertRaises(BadScope, woven, ("x",), A, bad, None)
        for bad in odd_values() + BAD_WEAVES:
            self.assertRaises(BadWeave, woven, ("x",), bad, ["x"], None)
        for bad in odd_values() + [(), (A,), (A, A, A), [A, A], (A, Y), (A, None), (A, ("mix", ())), A] + list(spoiled((A, X))):
            self.assertRaises(BadFills, woven, ("x",), A, ("x",), bad)
            self.assertRaises(BadFills, woven, ("x",), deep(60), ("x",), bad)
        self.assertRaises(BadFills, woven, ("x",), A, (), (A, X))


class Filled(TestCase):
    def test_example_by_hand(self):
        told = filled(ONE_X, (), (then(X, A),))
        self.assertEqual(told, ("reader", (), tallied(2), (1,), (1,)))
        self.assertTrue(takes(told, A))
        for weave in (NONE, then(A, A), on(A), mix(A)):
            self.assertFalse(takes(told, weave))

    def test_beside_woven(self):
        for reader in many_readers(502, 30):
            for scope in ((), ("y",), ("a", "y"), XYZ):
                fills = fills_for(503, scope, reader[1])
                told = filled(reader, scope, fills)
                self.assertTrue(is_reader(told))
                self.assertEqual((told[1], told[2], told[4]), (scope, reader[2], reader[4]))
                self.assertEqual(told[3], tuple(value(reader[2], reader[1], reader[3], fill) for fill in fills))
                for weave in many_weaves(504, scope, 3, 6):
                    self.assertIs(takes(told, weave), takes(reader, woven(scope, weave, reader[1], fills)))

    def test_errors_in_order(self):
        for bad in odd_values() + [ONE_X[:4], ("x",)]:
            self.assertRaises(BadReader, filled, bad, None, None)
        for bad in odd_values() + BAD_SCOPES:
            self.assertRaises(BadScope, filled, ONE_X, bad, None)
        for bad in odd_values() + [(), (A,), (A, A, A), [A, A], (A, Y), (Y, A), (A, None), A]:
            self.assertRaises(BadFills, filled, ONE_X, ("y",), bad)
        self.assertEqual(filled(reader=ONE_X, scope=("y",), fills=(A, X))[1], ("y",))
