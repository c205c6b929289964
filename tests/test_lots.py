"""[22]: lots that are come to, values of weaves with lots for letters."""

from itertools import product
from random import Random
from unittest import TestCase

from alongall.algebras import is_algebra, value
from alongall.errors import BadAlgebra, BadGiven, BadScope, BadStarts, BadWeave, TooMany
from alongall.lots import lots_of, values_of
from tests.odd import odd_values
from tests.oracles import back_by_hand, least_closed_by_hand, lots_by_hand, lots_of_numbers, on_by_hand
from tests.samples import (
    A, ALGEBRAS, NONE, SMALL_ALGEBRAS, THREES, X, back, borne, led, letters_by_hand, many_weaves, mix, on, ordered, parts_by_hand,
    tallied, then,
)
from tests.test_algebras import BREAKS_ONE

T = tallied(2)
BAD_GIVEN = [
    (), ((),), ((3,),), ((0, 0),), ((1, 0),), [(0,)], ([0],), (0,), ((0,), ()), ((0,),) * 9, ((True,),), ((0, None),), 0, ((-1,),),
]


def lots(algebra):
    return [lot for lot in lots_of_numbers(range(algebra[1])) if lot]


def some_given(seed, algebra, many):
    random = Random(seed)
    return [tuple(random.choice(lots(algebra)) for _ in range(random.randrange(1, 4))) for _ in range(many)]


def values_by_hand(algebra, scope, starts, weave):
    """The lot of values, part by part."""
    head = weave[0]
    if head == "none":
        return (0,)
    if head == "letter":
        return starts[letters_by_hand(scope).index(weave[1])]
    parts = [values_by_hand(algebra, scope, starts, part) for part in parts_by_hand(weave)]
    if head == "then":
        return tuple(sorted({algebra[2][a][b] for a in parts[0] for b in parts[1]}))
    if head == "mix":
        return least_closed_by_hand(algebra, parts)
    return tuple(sorted((on_by_hand if head == "on" else back_by_hand)(algebra, parts[0])))


class LotsOf(TestCase):
    def test_by_hand(self):
        told = lots_of(tallied(1), ((1,),))
        self.assertEqual(told, (((0,), (1,)), (((0, 1), (1, 1)), (0, 1), (0, 1)), (0, 0, 1, 1)))
        lots_told, ways, mixes = lots_of(T, ((0, 1),))
        self.assertEqual(lots_told, ((0,), (0, 1), (0, 1, 2)))
        self.assertEqual(ways, (((0, 1, 2), (1, 2, 2), (2, 2, 2)), (0, 2, 2), (0, 2, 2)))
        self.assertEqual(mixes, (0, 0, 2, 2, 2, 2, 2, 2))
        self.assertEqual(lots_of(T, ((0,),)), (((0,),), (((0,),), (0,), (0,)), (0, 0)))
        self.assertEqual(lots_of(led(1), ((2,),))[0], ((0,), (2,), (1,)))

    def test_order_of_lots(self):
        # Of then first, of on ahead of back, mixes last.
        self.assertEqual(lots_of(tallied(3), ((1,),))[0], ((0,), (1,), (2,), (3,)))
        self.assertEqual(lots_of(tallied(3), ((1, 2), (0,)))[0], ((0,), (1, 2), (2, 3), (3,)))
        self.assertEqual(lots_of(led(2), ((2, 3),))[0], ((0,), (2, 3), (1,)))
        self.assertEqual(lots_of(led(2), ((0, 2),))[0], ((0,), (0, 2), (0, 1, 2)))
        self.assertEqual(lots_of(ordered(), ((1,),))[0], ((0,), (1,), (2,), (3,)))

    def test_word_for_word(self):
        for algebra in SMALL_ALGEBRAS + THREES:
            for given in some_given(algebra[1], algebra, 6):
                right = lots_by_hand(algebra, given)
                if right is None:
                    with self.assertRaises(TooMany) as caught:
                        lots_of(algebra, given)
                    self.assertEqual(caught.exception.most, 10)
                else:
                    self.assertEqual(lots_of(algebra, given), right, (algebra, given))

    def test_given_ones_come_first_each_once(self):
        told = lots_of(borne(2), ((2,), (0,), (2,), (1, 2), (1,)))[0]
        self.assertEqual(told[:4], ((0,), (2,), (1, 2), (1,)))

    def test_just_ten_and_more(self):
        for most, right in ((6, 7), (7, 8)):
            self.assertEqual(len(lots_of(tallied(most), ((1,),))[0]), right)
        ten = lots_of(borne(3), ((1, 6), (1, 2, 3, 4, 5, 7), (2, 3, 4, 6)))
        self.assertEqual(len(ten[0]), 10)
        self.assertEqual(len(ten[2]), 1024)
        for algebra, given in (
            (led(6), ((0, 1, 2, 3, 4, 7), (1, 4, 5, 6), (0, 5))), (led(3), ((0, 2), (0, 3), (0, 4))),
            (tallied(7), ((0, 1), (0, 2))), (borne(2), tuple(lots(borne(2))[2:10])),
        ):
            with self.assertRaises(TooMany) as caught:
                lots_of(algebra, given)
            self.assertEqual(caught.exception.most, 10)

    def test_ten_and_eleven_by_hand(self):
        for algebra, given, many in (
            (ordered(), ((0, 1, 3), (0, 3), (1,)), 10), (tallied(3), ((0, 1), (1,)), 10), (led(2), ((0, 1, 2), (0, 3), (3,)), 10),
            (ordered(), ((0, 1), (0, 2, 3), (1,)), 11), (tallied(3), ((0, 1, 2), (0, 2), (1,)), 11),
            (led(2), ((0, 2), (0, 3), (1,)), 11),
        ):
            right = lots_by_hand(algebra, given, 11)
            self.assertEqual(len(right[0]), many)
            if many == 10:
                self.assertEqual(lots_of(algebra, given), right)
            else:
                self.assertRaises(TooMany, lots_of, algebra, given)

    def test_an_algebra_of_lots(self):
        # HEART (lots).
        for algebra in SMALL_ALGEBRAS + THREES:
            for given in some_given(9 + algebra[1], algebra, 5):
                try:
                    found, ways, mixes = lots_of(algebra, given)
                except TooMany:
                    continue
                if len(found) > 8:
                    continue
                table = ("algebra", len(found)) + ways + (mixes,)
                self.assertTrue(is_algebra(table))
                starts = tuple((given * 4)[:4])
                numbers = tuple(found.index(lot) for lot in starts)
                for weave in many_weaves(len(found), ("x", "y"), 4, 5):
                    told = values_of(algebra, ("x", "y"), starts, weave)
                    self.assertEqual(found[value(table, ("x", "y"), numbers, weave)], told)

    def test_errors_in_order(self):
        for bad in odd_values() + list(BREAKS_ONE):
            self.assertRaises(BadAlgebra, lots_of, bad, None)
            self.assertRaises(BadAlgebra, values_of, bad, None, None, None)
        for bad in odd_values() + BAD_GIVEN:
            self.assertRaises(BadGiven, lots_of, T, bad)
        self.assertEqual(len(lots_of(algebra=T, given=((0,),) * 8)[0]), 1)


class ValuesOf(TestCase):
    def test_by_hand(self):
        for weave, right in (
            (NONE, (0,)), (A, (0, 1)), (then(A, A), (0, 1, 2)), (on(A), (0, 1, 2)), (back(A), (0, 1, 2)), (mix(A), (0, 1, 2)),
            (then(NONE, A), (0, 1)), (on(NONE), (0,)), (mix(NONE), (0,)), (mix(NONE, A), (0, 1, 2)),
        ):
            self.assertEqual(values_of(T, (), ((0, 1),), weave), right)
        starts = ((0,), (1, 2))
        self.assertEqual(values_of(T, ("x",), starts, then(A, X)), (1, 2))
        self.assertEqual(values_of(T, ("x",), starts, on(A)), (0,))
        self.assertEqual(values_of(T, ("x",), starts, mix(A, X)), (2,))
        self.assertEqual(values_of(led(2), ("x",), ((2, 3), (0,)), back(A)), (1,))
        self.assertEqual(values_of(led(2), ("x",), ((2, 3), (0,)), then(X, A)), (2, 3))

    def test_part_by_part(self):
        random = Random(4)
        for algebra in SMALL_ALGEBRAS + THREES:
            for scope in ((), ("x",), ("x", "y")):
                starts = tuple(random.choice(lots(algebra)) for _ in range(1 << len(scope)))
                for weave in many_weaves(random.randrange(10 ** 6), scope, 4, 3):
                    self.assertEqual(values_of(algebra, scope, starts, weave), values_by_hand(algebra, scope, starts, weave))

    def test_single_values(self):
        for algebra in ALGEBRAS:
            starts = (algebra[1] - 1, 0, 1, algebra[1] // 2)
            lots_told = tuple((a,) for a in starts)
            for weave in many_weaves(algebra[1], ("x", "y"), 5, 6):
                self.assertEqual(values_of(algebra, ("x", "y"), lots_told, weave), (value(algebra, ("x", "y"), starts, weave),))

    def test_weaves_that_tell_one_word(self):
        for algebra in (T, led(2), ordered(), borne(2)) + THREES[2:12:3]:
            for lot, other in list(product(lots(algebra), repeat=2))[::3]:
                starts = (lot, other)
                m = mix(A, X)
                for alike in (
                    (on(A), then(A, on(A)), then(A, A, on(then(A, A))), on(then(A, A, A))), (back(A), then(back(A), A)),
                    (on(then(A, X)), then(A, on(then(X, A)))), (back(then(A, X)), then(back(then(X, A)), X)),
                    (m, then(m, m), then(m, A, m), on(m), back(m), on(then(m, X)), back(then(A, m)), mix(m), mix(A, m),
                     mix(A, X, NONE), mix(then(A, m), X), mix(then(m, X), then(A, m, X))),
                    (then(then(A, X), A), then(A, then(X, A))), (NONE, on(NONE), mix(NONE), then(NONE, NONE)),
                ):
                    self.assertEqual(len({values_of(algebra, ("x",), starts, weave) for weave in alike}), 1, alike)

    def test_many_parts(self):
        parts = [A, X]
        for _ in range(60):
            parts.append(then(A, parts[-1]))
        self.assertEqual(values_of(T, ("x",), ((0,), (0, 1)), mix(*parts[:20])), (0, 1, 2))
        self.assertEqual(values_of(T, ("x",), ((0,), (1,)), mix(*parts[:20])), (2,))

    def test_errors_in_order(self):
        for bad in odd_values() + [("all",), ("y", "x"), ("x", "x"), ("w", "x", "y", "z")]:
            self.assertRaises(BadScope, values_of, T, bad, None, None)
        for bad in odd_values() + [((0,),), ((0,),) * 3, ((0,), ()), ((0,), (3,)), [(0,), (0,)], ((0,), 0), ((0,), (1, 0)), (0, 1)]:
            self.assertRaises(BadStarts, values_of, T, ("x",), bad, None)
        for bad in odd_values() + [("letter", ("y",)), ("mix", ()), ("mix", (X, A)), ["none"]]:
            self.assertRaises(BadWeave, values_of, T, ("x",), ((0,), (1,)), bad)
        self.assertEqual(values_of(algebra=T, scope=(), starts=((0,),), weave=A), (0,))
