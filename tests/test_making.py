"""[5], [6]: weaves turned, without names, their parts, with other parts."""

from itertools import product
from unittest import TestCase

from alongall.algebras import value
from alongall.building import flipped
from alongall.errors import BadNames, BadPath, BadScope, BadWeave
from alongall.making import part_at, turned, with_part, without
from alongall.weaves import is_weave, length, size, spelled, written
from tests.odd import odd_values, spoiled
from tests.rules import part_by_hand, paths_in, placed_in
from tests.samples import (
    A, ALGEBRAS, NONE, X, Y, back, bush, letters_by_hand, many_weaves, mix, on, then, turned_by_hand,
)

XY = ("x", "y")
BOTH = ("letter", XY)
BAD_SCOPES = [("all",), ("y", "x"), ("x", "x"), ("w", "x", "y", "z"), ["x"], "x", ("X",)]
BAD_WEAVES = [("letter", ("z",)), ("mix", ()), ("mix", (X, A)), ["none"], ("then", A), ("none", A), ("letter", ("y", "x"))]


def deep(many, leaf=A):
    weave = leaf
    for _ in range(many - 1):
        weave = on(weave)
    return weave


class Turned(TestCase):
    def test_by_hand(self):
        for weave, right in (
            (NONE, NONE), (X, X), (then(A, X, Y), ("then", ("then", Y, X), A)), (on(then(A, X)), back(then(X, A))),
            (back(X), on(X)), (mix(on(A), X), mix(back(A), X)), (mix(on(A), back(A)), mix(back(A), on(A))),
            (mix(on(X), back(A)), mix(back(X), on(A))), (("then", ("then", A, X), Y), then(Y, X, A)),
        ):
            self.assertEqual(turned(XY, weave), right)

    def test_any_weave(self):
        for weave in many_weaves(90, XY, 5, 120):
            told = turned(XY, weave)
            self.assertEqual(told, turned_by_hand(weave))
            self.assertEqual(turned(XY, told), weave)
            self.assertTrue(is_weave(XY, told))
            self.assertEqual(size(XY, told), size(XY, weave))
            if length(XY, weave) is not None:
                self.assertEqual(spelled(XY, told), spelled(XY, weave)[::-1])

    def test_values(self):
        for algebra in ALGEBRAS[:9]:
            starts = (1, 0, algebra[1] - 1, algebra[1] // 2)
            for weave in many_weaves(91, XY, 4, 8):
                self.assertEqual(value(flipped(algebra), XY, starts, weave), value(algebra, XY, starts, turned(XY, weave)))

    def test_errors_in_order(self):
        for bad in odd_values() + BAD_SCOPES:
            self.assertRaises(BadScope, turned, bad, None)
        for bad in odd_values() + BAD_WEAVES:
            self.assertRaises(BadWeave, turned, XY, bad)
        self.assertEqual(turned(scope=(), weave=on(A)), back(A))
        self.assertEqual(turned((), deep(60)), turned_by_hand(deep(60)))


class Without(TestCase):
    def test_by_hand(self):
        for weave, names, right in (
            (BOTH, ("x",), Y), (BOTH, ("y",), X), (BOTH, XY, A), (BOTH, (), BOTH), (A, XY, A), (NONE, ("x",), NONE), (X, ("y",), X),
            (then(X, Y, BOTH), ("x",), then(A, Y, Y)), (on(X), ("x",), on(A)), (back(BOTH), ("x",), back(Y)),
            (mix(A, X), ("x",), mix(A)), (mix(A, X, Y, BOTH), ("x",), mix(A, Y)), (mix(A, X, Y, BOTH), XY, mix(A)),
            (mix(then(X, A), then(A, X)), ("x",), mix(then(A, A))), (mix(mix(A, X), A), ("x",), mix(mix(A), A)),
            (mix(mix(A), mix(X), mix(A, X)), ("x",), mix(mix(A))), (mix(on(X), on(A), back(X)), ("x",), mix(on(A), back(A))),
            (mix(X, back(A)), ("x",), mix(A, back(A))), (mix(BOTH, then(Y, A)), ("y",), mix(X, then(A, A))),
        ):
            self.assertEqual(without(XY, weave, names), right, (weave, names))

    def test_any_weave(self):
        for weave in many_weaves(92, ("a", "x", "y"), 5, 100):
            for names in ((), ("a",), ("x",), ("y",), ("a", "y"), ("a", "x", "y")):
                told = without(("a", "x", "y"), weave, names)
                rest = tuple(name for name in ("a", "x", "y") if name not in names)
                self.assertTrue(is_weave(rest, told))
                self.assertEqual(turned(rest, told), without(("a", "x", "y"), turned(("a", "x", "y"), weave), names))
                if length(rest, told) is not None:
                    row = tuple(tuple(name for name in letter if name in rest) for letter in spelled(("a", "x", "y"), weave))
                    self.assertEqual(spelled(rest, told), row)
                if len(names) == 2:
                    first = without(("a", "x", "y"), weave, names[:1])
                    left = tuple(name for name in ("a", "x", "y") if name != names[0])
                    self.assertEqual(without(left, first, names[1:]), told)

    def test_places_in_order(self):
        for row in product(letters_by_hand(XY), repeat=3):
            right = tuple(tuple(name for name in letter if name != "x") for letter in row)
            self.assertEqual(without(XY, written(XY, row), ("x",)), written(("y",), right))

    def test_errors_in_order(self):
        for bad in odd_values() + BAD_SCOPES:
            self.assertRaises(BadScope, without, bad, None, None)
        for bad in odd_values() + BAD_WEAVES:
            self.assertRaises(BadWeave, without, XY, bad, None)
        for bad in odd_values() + [
            ("z",), ("y", "x"), ("x", "x"), ["x"], "x", "xy", ("x", "y", "z"), ("x", None), (b"x",), (("x",),), {"x": 1}, ("",),
            ("x",) * 1000,
        ]:
            self.assertRaises(BadNames, without, XY, A, bad)
        self.assertEqual(without(scope=XY, weave=X, names=("x",)), A)
        self.assertRaises(BadNames, without, (), A, ("x",))


class Parts(TestCase):
    def test_part_at(self):
        weave = then(on(X), mix(A, then(X, Y), back(BOTH)), A)
        m = weave[2][1]
        for path, right in (
            ((), weave), ((0,), on(X)), ((0, 0), X), ((1,), weave[2]), ((1, 0), m), ((1, 1), A), ((1, 0, 0), m[1][0]),
            ((1, 0, 1), m[1][1]), ((1, 0, 2), m[1][2]),
        ):
            self.assertEqual(part_at(XY, weave, path), right)
        for weave in many_weaves(93, XY, 5, 40):
            for path in paths_in(weave):
                self.assertEqual(part_at(XY, weave, path), part_by_hand(weave, path))

    def test_paths_that_lead_nowhere(self):
        weave = then(on(X), mix(A, Y), NONE)
        for bad in odd_values() + list(spoiled((1, 0, 1))) + [
            (2,), (-1,), (0, 1), (0, 0, 0), (1, 0, 2), (1, 0, 0, 0), (True,), (False,), (1, True), (1, False), (1, 0, True),
            (1, 0, False), [0], [1, 0], (0.0,), ("0",), (None,), ((0,),), 0, (1, 1, 0), (0, 0, None), (0,) * 100000, (1, 0, -1),
        ]:
            self.assertRaises(BadPath, part_at, XY, weave, bad)
            self.assertRaises(BadPath, with_part, XY, weave, bad, None)
        for leaf in (NONE, A):
            self.assertRaises(BadPath, part_at, XY, leaf, (0,))
            self.assertEqual(part_at(XY, leaf, ()), leaf)

    def test_with_part_by_hand(self):
        for weave, path, part, right in (
            (X, (), Y, Y), (then(X, Y), (0,), A, then(A, Y)), (then(X, Y), (1,), A, then(X, A)), (on(X), (0,), then(A, X), on(then(A, X))),
            (back(X), (0,), NONE, back(NONE)), (mix(A, X), (0,), Y, mix(X, Y)), (mix(A, X), (1,), A, mix(A)), (mix(A, X), (0,), X, mix(X)),
            (mix(A, X), (0,), on(A), mix(X, on(A))), (mix(mix(A, X), mix(A)), (1, 1), A, mix(mix(A))),
            (mix(then(A, A), then(X, A)), (1, 0), A, mix(then(A, A))), (mix(A), (0,), A, mix(A)),
        ):
            self.assertEqual(with_part(XY, weave, path, part), right)

    def test_with_part_of_any(self):
        parts = many_weaves(94, XY, 3, 5)
        for weave in many_weaves(95, XY, 4, 40):
            for path in paths_in(weave):
                self.assertEqual(with_part(XY, weave, path, part_at(XY, weave, path)), weave)
                for part in parts:
                    self.assertEqual(with_part(XY, weave, path, part), placed_in(weave, path, part))

    def test_nodes(self):
        self.assertEqual(size((), bush(199)), 199)
        whole = ("then", bush(199), bush(199))
        self.assertEqual(size((), with_part((), whole, (1,), on(bush(199)))), 400)
        self.assertRaises(BadWeave, with_part, (), whole, (1,), on(on(bush(199))))
        self.assertRaises(BadWeave, with_part, (), whole, (0, 0), bush(299))
        # Parts that fall together count once.
        two = mix(on(bush(197)), back(bush(197)))
        self.assertEqual(size((), two), 397)
        big = mix(bush(299), on(A))
        at = big[1].index(on(A))
        self.assertEqual(with_part((), big, (at,), bush(299)), mix(bush(299)))
        self.assertRaises(BadWeave, with_part, (), big, (at,), on(bush(299)))

    def test_depth(self):
        self.assertEqual(with_part((), deep(59), (0,) * 58, on(A)), deep(60))
        self.assertRaises(BadWeave, with_part, (), deep(60), (0,) * 59, on(A))
        self.assertEqual(with_part((), deep(60), (0,), A), on(A))
        self.assertEqual(with_part((), on(A), (0,), deep(59)), deep(60))
        self.assertRaises(BadWeave, with_part, (), on(A), (0,), deep(60))
        self.assertEqual(part_at((), deep(60), (0,) * 59), A)

    def test_errors_in_order(self):
        for bad in odd_values() + BAD_SCOPES:
            self.assertRaises(BadScope, part_at, bad, None, None)
            self.assertRaises(BadScope, with_part, bad, None, None, None)
        for bad in odd_values() + BAD_WEAVES:
            self.assertRaises(BadWeave, part_at, XY, bad, None)
            self.assertRaises(BadWeave, with_part, XY, bad, None, None)
            self.assertRaises(BadWeave, with_part, XY, on(X), (0,), bad)
            self.assertRaises(BadWeave, with_part, XY, mix(A, X, on(X)), (1,), bad)
            self.assertRaises(BadPath, with_part, XY, on(X), (1,), bad)
        self.assertEqual(part_at(scope=(), weave=on(A), path=(0,)), A)
        self.assertEqual(with_part(scope=(), weave=on(A), path=(0,), part=NONE), on(NONE))
