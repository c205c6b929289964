"""[13]: walks, and the algebras that come of them."""

from itertools import product
from random import Random
from unittest import TestCase

from alongall.algebras import is_algebra, value
from alongall.building import flipped, made, paired
from alongall.errors import BadAlgebra, BadGiven, TooMany
from tests.odd import odd_values, spoiled
from tests.oracles import table_by_hand, walk_by_hand
from tests.samples import (
    A, ALGEBRAS, SMALL_ALGEBRAS, THREES, X, borne, flipped_by_hand, led, many_weaves, on, ordered, tallied, turned_by_hand,
)
from tests.test_algebras import BREAKS_ONE

XY = ("x", "y")
NOTHING = (("algebra", 1, ((0,),), (0,), (0,), (0, 0)), (0,))


class Made(TestCase):
    def test_nothing_given(self):
        for algebra in ALGEBRAS + THREES:
            self.assertEqual(made(algebra, ()), NOTHING)
            self.assertEqual(made(algebra, (0,)), NOTHING)
            self.assertEqual(made(algebra, (0,) * 8), NOTHING)

    def test_lines_by_hand(self):
        # 0, then what is given, then a b, then on, back, then mixes.
        self.assertEqual(made(tallied(3), (1,))[1], (0, 1, 2, 3))
        self.assertEqual(made(tallied(7), (1,))[1], (0, 1, 2, 7, 3, 4, 5, 6))
        self.assertEqual(made(tallied(7), (3,))[1], (0, 3, 6, 7))
        self.assertEqual(made(tallied(3), (3, 1))[1], (0, 3, 1, 2))
        self.assertEqual(made(led(6), (4,))[1], (0, 4, 1))
        self.assertEqual(made(borne(3), (4, 1))[1], (0, 4, 1, 5))
        self.assertEqual(made(borne(3), (1, 2, 4))[1], (0, 1, 2, 4, 3, 5, 6, 7))
        self.assertEqual(made(ordered(), (1,))[1], (0, 1, 2, 3))
        self.assertEqual(made(ordered(), (3, 1))[1], (0, 3, 1, 2))

    def test_given_twice_or_zero(self):
        for algebra in ALGEBRAS:
            last = algebra[1] - 1
            self.assertEqual(made(algebra, (last, last, 0, last)), made(algebra, (last,)))
            self.assertEqual(made(algebra, (1, 0, last, 1)), made(algebra, (1, last)))

    def test_walks(self):
        for algebra in ALGEBRAS + THREES:
            for given in [(), (1,)] + [tuple((k * a + 1) % algebra[1] for k in range(3)) for a in (1, 2, 3)]:
                line = walk_by_hand((algebra,), [(a,) for a in given])
                told, row = made(algebra, given)
                self.assertEqual(row, tuple(thing[0] for thing in line))
                self.assertEqual(told, table_by_hand((algebra,), line))
                self.assertTrue(is_algebra(told))

    def test_all_elements_in_another_order(self):
        told, row = made(tallied(2), (2, 1))
        self.assertEqual(row, (0, 2, 1))
        self.assertEqual(told, (
            "algebra", 3, ((0, 1, 2), (1, 1, 1), (2, 1, 1)), (0, 1, 1), (0, 1, 1), (0, 0, 1, 1, 1, 1, 1, 1)))

    def test_values(self):
        random = Random(1)
        for algebra in ALGEBRAS + THREES:
            given = tuple(random.randrange(algebra[1]) for _ in range(4))
            told, row = made(algebra, given)
            for weave in many_weaves(algebra[1], XY, 4, 15):
                starts = tuple(row.index(a) for a in given)
                self.assertEqual(row[value(told, XY, starts, weave)], value(algebra, XY, given, weave))

    def test_errors(self):
        for bad in odd_values() + list(BREAKS_ONE):
            self.assertRaises(BadAlgebra, made, bad, None)
            self.assertRaises(BadAlgebra, flipped, bad)
        for bad in odd_values() + [(0,) * 9, (3,), (-1,), [1], (True,), (1.0,), (1, None), ((1,),), "1"]:
            self.assertRaises(BadGiven, made, tallied(2), bad)
        self.assertEqual(made(algebra=tallied(1), given=(1,)), (tallied(1), (0, 1)))


class Paired(TestCase):
    def test_nothing_given(self):
        nothing = (NOTHING[0], ((0, 0),))
        self.assertEqual(paired(tallied(1), borne(2), ()), nothing)
        self.assertEqual(paired(tallied(1), borne(2), ((0, 0),) * 8), nothing)

    def test_by_hand(self):
        told, row = paired(tallied(1), tallied(2), ((1, 1),))
        self.assertEqual(row, ((0, 0), (1, 1), (1, 2)))
        self.assertEqual(told, tallied(2))
        told, row = paired(led(1), ordered(), ((2, 1),))
        self.assertEqual(row, ((0, 0), (2, 1), (1, 2), (1, 3), (2, 2), (2, 3)))

    def test_walks(self):
        random = Random(2)
        for one, other in product(SMALL_ALGEBRAS[:8], repeat=2):
            given = tuple((random.randrange(one[1]), random.randrange(other[1])) for _ in range(random.randrange(3)))
            if one[1] * other[1] > 12:
                given = given[:1]
            line = walk_by_hand((one, other), given)
            if len(line) > 8:
                with self.assertRaises(TooMany) as caught:
                    paired(one, other, given)
                self.assertEqual(caught.exception.most, 8)
            else:
                told, row = paired(one, other, given)
                self.assertEqual(row, tuple(line))
                self.assertEqual(told, table_by_hand((one, other), line))
                self.assertTrue(is_algebra(told))

    def test_values(self):
        one, other = tallied(1), ordered()
        told, row = paired(one, other, ((0, 1), (1, 1)))
        for weave in many_weaves(3, ("x",), 5, 60):
            number = value(told, ("x",), (row.index((0, 1)), row.index((1, 1))), weave)
            self.assertEqual(row[number], (value(one, ("x",), (0, 1), weave), value(other, ("x",), (1, 1), weave)))

    def test_just_eight_and_more(self):
        # Counts of two letters by themselves: every pair is met.
        told, row = paired(tallied(1), tallied(3), ((1, 0), (0, 1)))
        self.assertEqual(len(row), 8)
        self.assertTrue(is_algebra(told))
        for one, other in ((tallied(2), tallied(2)), (tallied(4), tallied(1)), (tallied(7), borne(3))):
            with self.assertRaises(TooMany) as caught:
                paired(one, other, ((1, 0), (0, 1)))
            self.assertEqual(caught.exception.most, 8)
        grid = tuple(product(range(3), range(3)))[1:]
        self.assertRaises(TooMany, paired, led(1), led(1), grid)
        self.assertEqual(len(grid), 8)

    def test_errors(self):
        one, other = tallied(1), tallied(2)
        for bad in odd_values() + list(BREAKS_ONE):
            self.assertRaises(BadAlgebra, paired, bad, other, None)
            self.assertRaises(BadAlgebra, paired, one, bad, None)
        for bad in odd_values() + [
            ((0, 0),) * 9, ((2, 0),), ((0, 3),), ((0, 1, 0),), ((0,),), (0, 1), ([0, 1],), [(0, 1)], ((True, 0),), ((0, True),),
            ((-1, 0),), ((0, None),), (None,), ((0, 1.0),),
        ]:
            self.assertRaises(BadGiven, paired, one, other, bad)
        self.assertEqual(paired(one=one, other=one, given=((1, 1),))[1], ((0, 0), (1, 1)))


class Flipped(TestCase):
    def test_flipped(self):
        for algebra in ALGEBRAS + THREES:
            told = flipped(algebra)
            self.assertEqual(told, flipped_by_hand(algebra))
            self.assertTrue(is_algebra(told))
            self.assertEqual(flipped(told), algebra)
        self.assertNotEqual(flipped(led(1)), led(1))
        self.assertEqual(flipped(algebra=tallied(3)), tallied(3))

    def test_values(self):
        for algebra in ALGEBRAS + THREES:
            for weave in many_weaves(4, ("x",), 5, 20):
                starts = (1, algebra[1] - 1)
                told = value(flipped(algebra), ("x",), starts, weave)
                self.assertEqual(told, value(algebra, ("x",), starts, turned_by_hand(weave)))

    def test_spoiled(self):
        for bad in spoiled(tallied(1)):
            self.assertRaises(BadAlgebra, flipped, bad)
        self.assertEqual(value(flipped(led(2)), ("x",), (2, 3), on(X)), 1)
        self.assertEqual(value(flipped(led(2)), ("x",), (2, 3), A), 2)
