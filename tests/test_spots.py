"""[50]: spots, and what stands around them."""

from unittest import TestCase

from alongall.algebras import value
from alongall.errors import BadScope, BadSpot, BadWeave, TooMany
from alongall.spots import cut, is_spot
from alongall.weaves import is_weave, length, size, spelled
from tests.odd import Strange, odd_values, spoiled
from tests.samples import (
    A, ALGEBRAS, NONE, THREES, X, Y, back, bush, letters_by_hand, many_weaves, mix, on, parts_by_hand, places_in_order,
    spot_turned, spots_by_hand, then, turned_by_hand,
)

XY = ("x", "y")
XYZ = ("x", "y", "z")


def around_by_hand(weave, spot):
    """What cut tells, just as the document says it."""
    if spot == ():
        return NONE, weave[1], NONE
    head, number = weave[0], spot[0]
    part = weave[1] if head in ("on", "back") else parts_by_hand(weave)[number]
    ahead, letter, behind = around_by_hand(part, spot[1:])
    if head == "then":
        return (ahead, letter, then(behind, weave[2])) if number == 0 else (then(weave[1], ahead), letter, behind)
    if head == "on":
        return then(*[part] * number, ahead), letter, then(behind, weave)
    if head == "back":
        return then(weave, ahead), letter, then(behind, *[part] * number)
    return then(weave, ahead), letter, then(behind, weave)


class Spots(TestCase):
    def test_letters_and_none(self):
        self.assertIs(is_spot((), A, ()), True)
        self.assertIs(is_spot((), NONE, ()), False)
        self.assertIs(is_spot((), A, (0,)), False)
        self.assertIs(is_spot((), NONE, (0,)), False)

    def test_then(self):
        weave = then(A, X, NONE)
        for spot, right in (((0,), True), ((1, 0), True), ((1, 1), False), ((1,), False), ((2,), False), ((), False)):
            self.assertIs(is_spot(("x",), weave, spot), right, spot)

    def test_numbers_of_copies(self):
        for whole in (on(then(A, A)), back(then(A, A))):
            for number in range(41):
                self.assertIs(is_spot((), whole, (number, 1)), True)
            for number in (41, 42, 1000, -1, 10 ** 30):
                self.assertIs(is_spot((), whole, (number, 1)), False)
            self.assertIs(is_spot((), whole, (40, 2)), False)
            self.assertIs(is_spot((), whole, (40,)), False)

    def test_mix(self):
        weave = ("mix", (A, X, NONE, on(Y)))
        right = {(0,), (1,)} | {(3, k) for k in range(41)}
        for spot in [(k,) for k in range(-1, 6)] + [(k, m) for k in range(5) for m in range(43)]:
            self.assertIs(is_spot(XY, weave, spot), spot in right, spot)

    def test_no_place(self):
        for weave in (on(NONE), back(NONE), mix(NONE), then(NONE, NONE)):
            for spot in ((), (0,), (0, 0), (1,)):
                self.assertIs(is_spot((), weave, spot), False)

    def test_all_spots(self):
        for weave in many_weaves(20, XY, 4, 80):
            for spot in spots_by_hand(weave, 2):
                self.assertIs(is_spot(XY, weave, spot), True)
                self.assertIs(is_spot(XY, weave, spot + (0,)), False)
                if spot:
                    self.assertIs(is_spot(XY, weave, spot[:-1]), False)

    def test_any_value(self):
        weave = on(then(A, X))
        for thing in odd_values() + list(spoiled((1, 1))) + ["(1, 1)", [1, 1], (True, 1), (1, True), (0, 1.0)]:
            self.assertIs(is_spot(("x",), weave, thing), False)
            self.assertRaises(BadSpot, cut, ("x",), weave, thing)
        self.assertIs(is_spot((), A, []), False)
        self.assertIs(is_spot((), then(A, A), (False,)), False)

    def test_errors_in_order(self):
        for ask in (is_spot, cut):
            self.assertRaises(BadScope, ask, ("y", "x"), A, (0,))
            self.assertRaises(BadScope, ask, ["x"], None, None)
            self.assertRaises(BadWeave, ask, (), X, None)
            self.assertRaises(BadWeave, ask, (), ("mix", (NONE, A)), (1,))
            for bad in odd_values():
                self.assertRaises(BadScope, ask, bad, None, None)
                self.assertRaises(BadWeave, ask, (), bad, Strange())

    def test_by_name(self):
        self.assertTrue(is_spot(scope=(), weave=A, thing=()))
        self.assertEqual(cut(scope=(), weave=A, spot=()), (NONE, (), NONE))


class Cut(TestCase):
    def test_example_by_hand(self):
        # [57]
        self.assertEqual(cut((), on(A), (2,)), (then(A, A), (), on(A)))

    def test_finite_words(self):
        for weave in many_weaves(21, XY, 6, 60, ("none", "letter", "then", "then")):
            row = spelled(XY, weave)
            spots = places_in_order(weave)
            self.assertEqual(len(spots), len(row))
            for at, spot in enumerate(spots):
                ahead, letter, behind = cut(XY, weave, spot)
                self.assertEqual(letter, row[at])
                self.assertEqual(spelled(XY, ahead), row[:at])
                self.assertEqual(spelled(XY, behind), row[at + 1:])

    def test_finite_sides_of_endless_words(self):
        weave = then(X, on(then(A, Y)))
        for number in range(10):
            ahead, letter, behind = cut(XY, weave, (1, number, 1))
            self.assertEqual(spelled(XY, ahead), (("x",),) + ((), ("y",)) * number + ((),))
            self.assertEqual(letter, ("y",))
            self.assertIsNone(length(XY, behind))
        weave = back(then(A, Y))
        for number in range(10):
            ahead, letter, behind = cut(XY, weave, (number, 0))
            self.assertEqual(spelled(XY, behind), (("y",),) + ((), ("y",)) * number)
            self.assertEqual(letter, ())
            self.assertIsNone(length(XY, ahead))

    def check_values(self, scope, weave, spot, tables):
        """What cut tells has the values of what the document says, and put together those of the weave."""
        ahead, letter, behind = cut(scope, weave, spot)
        self.assertTrue(is_weave(scope, ahead) and is_weave(scope, behind))
        one, same, other = around_by_hand(weave, spot)
        self.assertEqual(letter, same)
        many = 2 ** len(scope)
        for table in tables:
            for shift in range(1, 4):
                starts = tuple((k * shift + 1) % table[1] for k in range(many))
                numbers = [told(table, scope, starts, part) for part in (ahead, one, behind, other, weave)]
                self.assertEqual(numbers[0], numbers[1])
                self.assertEqual(numbers[2], numbers[3])
                place = starts[letters_by_hand(scope).index(letter)]
                self.assertEqual(table[2][table[2][numbers[0]][place]][numbers[2]], numbers[4])

    def test_endless_words(self):
        for weave in many_weaves(22, XY, 4, 60):
            for spot in spots_by_hand(weave, 3)[::5]:
                self.check_values(XY, weave, spot, ALGEBRAS[:5] + ALGEBRAS[7:9] + ALGEBRAS[12:] + THREES)

    def test_turned(self):
        for weave in many_weaves(23, XY, 4, 40):
            for spot in spots_by_hand(weave, 2)[::3]:
                ahead, letter, behind = cut(XY, weave, spot)
                one, same, other = cut(XY, turned_by_hand(weave), spot_turned(weave, spot))
                self.assertEqual(letter, same)
                self.assertEqual(length(XY, ahead), length(XY, other))
                self.assertEqual(length(XY, behind), length(XY, one))

    def test_no_room_for_nodes(self):
        weave = on(then(then(*[A] * 30), then(*[X] * 30)))
        with self.assertRaises(TooMany) as caught:
            cut(("x",), weave, (40, 0, 0))
        self.assertEqual(caught.exception.most, 400)
        with self.assertRaises(TooMany) as caught:
            cut(("x",), turned_by_hand(weave), (40, 0) + (0,) * 29)
        self.assertEqual(caught.exception.most, 400)
        cut(("x",), weave, (1, 0, 0))

    def test_no_room_for_depth(self):
        tower = A
        for _ in range(56):
            tower = on(tower)
        weave = back(then(A, then(X, tower)))
        self.assertEqual(deep(weave), 60)
        with self.assertRaises(TooMany) as caught:
            cut(("x",), weave, (0, 1, 0))
        self.assertEqual(caught.exception.most, 60)
        self.assertEqual(cut(("x",), weave, (0, 0))[2], then(X, tower))

    def test_errors_ahead_of_too_many(self):
        weave = on(then(then(*[A] * 30), then(*[X] * 30)))
        self.assertRaises(BadSpot, cut, ("x",), weave, (41, 0, 0))
        self.assertRaises(BadWeave, cut, (), weave, (40, 0, 0))

    def test_large_weaves_within_the_promise(self):
        # At most 30 nodes, at most 10 deep, numbers up to 2: no TooMany.
        leaves = sorted(("letter", letter) for letter in letters_by_hand(XYZ))
        wide = ("mix", tuple(sorted(leaves + [on(leaf) for leaf in leaves[:7]])))
        full = ("mix", tuple(sorted(leaves + [NONE, ("mix", tuple(sorted(leaves + [NONE]))), on(A), on(X)])))
        pair = then(("mix", tuple(sorted(leaves + [NONE]))), ("mix", tuple(sorted(leaves + [NONE]))))
        for core in (wide, full, pair, mix(*leaves), then(A, X), back(mix(*leaves)), mix(mix(mix(*leaves)))):
            for heads in ("n" * 7, "b" * 7, "nnnnnnb", "bbbbbbn", "nbnbnbn", "nnnmnnn", "mmmmmmm", "nnnnnn", "bbbbbb"):
                weave = core
                for head in heads:
                    weave = {"n": on, "b": back, "m": mix}[head](weave)
                if size(XYZ, weave) > 30 or deep(weave) > 10:
                    continue
                for spot in spots_by_hand(core, 2):
                    for number in (0, 1, 2):
                        path = tuple(0 if head == "m" else number for head in reversed(heads)) + spot
                        self.assertIs(is_spot(XYZ, weave, path), True)
                        ahead, _, behind = cut(XYZ, weave, path)
                        self.assertTrue(is_weave(XYZ, ahead) and is_weave(XYZ, behind))
        self.assertEqual((size(XYZ, wide), size(XYZ, full), deep(wide), deep(full)), (23, 24, 3, 3))

    def test_just_four_hundred_nodes(self):
        self.assertEqual((size(("x",), on(bush(197))), size(("x",), on(bush(199)))), (198, 200))
        ahead, letter, behind = cut(("x",), on(then(X, on(bush(197)))), (0, 0))
        self.assertEqual((ahead, letter, size(("x",), behind)), (NONE, ("x",), 400))
        with self.assertRaises(TooMany) as caught:
            cut(("x",), on(then(X, bush(199))), (0, 0))
        self.assertEqual(caught.exception.most, 400)

    def test_pieces_that_are_alike(self):
        e, m = then(X, Y), mix(A, Y)
        for row in (
            (X, Y, on(X)), (X, Y, Y, on(X)), (e, Y, on(e)), (X, e, on(e)), (e, e, on(e)), (on(e), e), (e, on(e), e), (m, m), (m, Y, m), (m, mix(A, X), m, m),
            (back(e), Y, e), (back(e), e, Y), (back(e), e, e), (e, back(e)), (on(X), X, on(X)), (X, on(X), on(on(X))),
            (X, X), (on(X), on(X)), (back(X), back(X)), (X, NONE, Y), (on(NONE), X), (X, on(NONE), on(X)),
        ):
            weave = A
            for piece in row:
                weave = ("then", weave, piece)
            self.check_values(XY, weave, (0,) * len(row), ALGEBRAS + THREES)
            self.check_values(XY, then(*row, A), (1,) * len(row), ALGEBRAS + THREES)

    def test_long_chains_of_on(self):
        weave = X
        for _ in range(9):
            weave = on(weave)
        self.check_values(("x",), weave, (2,) * 9, ALGEBRAS)
        weave = turned_by_hand(weave)
        self.check_values(("x",), weave, (2,) * 9, ALGEBRAS)


def told(table, scope, starts, weave):
    """The value of a weave that may be larger than weaves are."""
    head = weave[0]
    if head == "none":
        return 0
    if head == "letter":
        return starts[letters_by_hand(scope).index(weave[1])]
    if is_weave(scope, weave):
        return value(table, scope, starts, weave)
    parts = [told(table, scope, starts, part) for part in parts_by_hand(weave)]
    if head == "then":
        return table[2][parts[0]][parts[1]]
    if head == "mix":
        return table[5][sum(1 << a for a in set(parts))]
    return table[3 if head == "on" else 4][parts[0]]


def deep(weave):
    return 1 + max([deep(part) for part in parts_by_hand(weave)], default=0)
