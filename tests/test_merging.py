"""[14]: mergings."""

from itertools import product
from random import Random
from unittest import TestCase

from alongall.algebras import is_algebra, value
from alongall.errors import BadAlgebra, BadLot, BadMerging, BadPairs
from alongall.merging import coarsest, is_merging, least_merging, merged, mergings
from tests.odd import odd_values, spoiled
from tests.oracles import is_merging_by_hand, lots_of_numbers, mergings_by_hand, mixed_in, splits_by_hand
from tests.samples import ALGEBRAS, SMALL_ALGEBRAS, THREES, borne, led, many_weaves, ordered, tallied
from tests.test_algebras import BREAKS_ONE

T = tallied(2)


def home_of(merging):
    return {element: number for number, lot in enumerate(merging) for element in lot}


class Mergings(TestCase):
    def test_example_by_hand(self):
        # [18]
        self.assertEqual(mergings(T), (((0,), (1,), (2,)), ((0,), (1, 2)), ((0, 1, 2),)))
        self.assertEqual(least_merging(T, ((0, 1),)), ((0, 1, 2),))

    def test_all_ways_tried(self):
        for algebra in SMALL_ALGEBRAS + THREES:
            told = mergings(algebra)
            self.assertEqual(told, mergings_by_hand(algebra))
            self.assertEqual(told, tuple(sorted(told)))

    def test_large_ones(self):
        for algebra, many in ((tallied(7), 8), (borne(3), 61), (led(6), 878)):
            told = mergings(algebra)
            self.assertEqual(len(told), many)
            self.assertEqual(told, tuple(sorted(set(told))))
            for merging in told[::40]:
                self.assertTrue(is_merging_by_hand(algebra, merging))

    def test_one_element(self):
        one = ("algebra", 1, ((0,),), (0,), (0,), (0, 0))
        self.assertEqual(mergings(one), (((0,),),))
        self.assertEqual(coarsest(one, ()), ((0,),))
        self.assertEqual(least_merging(one, ((0, 0),)), ((0,),))

    def test_is_merging(self):
        for algebra in SMALL_ALGEBRAS + THREES:
            right = mergings(algebra)
            for lots in splits_by_hand(list(range(algebra[1]))):
                lots = tuple(sorted(tuple(sorted(lot)) for lot in lots))
                self.assertIs(is_merging(algebra, lots), lots in right)

    def test_odd_mergings(self):
        for thing in odd_values() + [
            (), ((0,), (1,)), ((0, 1), (1, 2)), ((0,), (1,), (2,), (2,)), ((0,), (2,), (1,)), ((1, 2), (0,)), ((0,), (2, 1)),
            ((), (0,), (1, 2)), ((0,), (1, 2), ()), ((0,), [1, 2]), [(0,), (1, 2)], ((0,), (1, 2, 3)), ((0,), (1, 1, 2)),
            ((False,), (1, 2)), ((0,), (True, 2)), ((0.0,), (1, 2)), (0, (1, 2)), ((0, 1), (2,)), ((0, 2), (1,)), ((0,), (1,), 2),
        ]:
            self.assertIs(is_merging(T, thing), False, thing)
            self.assertRaises(BadMerging, merged, T, thing)
        for thing in spoiled(((0,), (1, 2))):
            self.assertIs(is_merging(T, thing), False)

    def test_merged(self):
        for algebra in SMALL_ALGEBRAS + THREES:
            for merging in mergings(algebra):
                told = merged(algebra, merging)
                home = home_of(merging)
                self.assertTrue(is_algebra(told))
                self.assertEqual(told[1], len(merging))
                numbers = range(algebra[1])
                for a, b in product(numbers, repeat=2):
                    self.assertEqual(told[2][home[a]][home[b]], home[algebra[2][a][b]])
                for a in numbers:
                    self.assertEqual(told[3][home[a]], home[algebra[3][a]])
                    self.assertEqual(told[4][home[a]], home[algebra[4][a]])
                for lot in lots_of_numbers(numbers):
                    self.assertEqual(mixed_in(told, [home[a] for a in lot]), home[mixed_in(algebra, lot)])

    def test_merged_by_hand(self):
        self.assertEqual(merged(T, ((0,), (1,), (2,))), T)
        self.assertEqual(merged(T, ((0,), (1, 2))), tallied(1))
        self.assertEqual(merged(T, ((0, 1, 2),)), ("algebra", 1, ((0,),), (0,), (0,), (0, 0)))
        self.assertEqual(merged(ordered(), ((0,), (1, 2, 3))), tallied(1))

    def test_values(self):
        for algebra in (tallied(7), led(2), borne(2), ordered()) + THREES:
            for merging in mergings(algebra)[:6]:
                home = home_of(merging)
                for weave in many_weaves(len(merging), ("x",), 4, 6):
                    starts = (1, algebra[1] - 1)
                    told = value(merged(algebra, merging), ("x",), tuple(home[a] for a in starts), weave)
                    self.assertEqual(told, home[value(algebra, ("x",), starts, weave)])

    def test_bad_algebras(self):
        for bad in odd_values() + list(BREAKS_ONE):
            self.assertRaises(BadAlgebra, is_merging, bad, None)
            self.assertRaises(BadAlgebra, merged, bad, None)
            self.assertRaises(BadAlgebra, mergings, bad)
            self.assertRaises(BadAlgebra, least_merging, bad, None)
            self.assertRaises(BadAlgebra, coarsest, bad, None)

    def test_by_name(self):
        self.assertEqual(merged(algebra=T, merging=((0,), (1, 2))), tallied(1))
        self.assertTrue(is_merging(algebra=T, thing=mergings(algebra=T)[0]))
        self.assertEqual(least_merging(algebra=T, pairs=()), coarsest(algebra=T, lot=(1,)))


class LeastMerging(TestCase):
    def test_no_pairs(self):
        for algebra in ALGEBRAS + THREES:
            each = tuple((a,) for a in range(algebra[1]))
            self.assertEqual(least_merging(algebra, ()), each)
            self.assertEqual(least_merging(algebra, tuple((a, a) for a in range(algebra[1]))), each)

    def test_most_lots_of_all(self):
        random = Random(3)
        for algebra in SMALL_ALGEBRAS + THREES:
            every = mergings(algebra)
            all_pairs = list(product(range(algebra[1]), repeat=2))
            for pairs in [(pair,) for pair in all_pairs] + [tuple(random.sample(all_pairs, 2)) for _ in range(10)]:
                fits = [m for m in every if all(home_of(m)[a] == home_of(m)[b] for a, b in pairs)]
                best = max(len(m) for m in fits)
                self.assertEqual([m for m in fits if len(m) == best], [least_merging(algebra, pairs)])

    def test_twenty_pairs(self):
        self.assertEqual(least_merging(T, ((1, 2),) * 20), ((0,), (1, 2)))
        self.assertRaises(BadPairs, least_merging, T, ((1, 2),) * 21)

    def test_large_ones(self):
        self.assertEqual(least_merging(tallied(7), ((3, 4),)), ((0,), (1,), (2,), (3, 4, 5, 6, 7)))
        self.assertEqual(least_merging(tallied(7), ((7, 5),)), ((0,), (1,), (2,), (3,), (4,), (5, 6, 7)))
        self.assertEqual(least_merging(led(6), ((3, 5), (5, 7))), ((0,), (1,), (2,), (3, 5, 7), (4,), (6,)))

    def test_bad_pairs(self):
        for bad in odd_values() + [
            ((0, 3),), ((0,),), ((0, 1, 2),), (0, 1), ([0, 1],), [(0, 1)], ((0, True),), ((0, 1.0),), ((-1, 0),), ((0, None),),
        ]:
            self.assertRaises(BadPairs, least_merging, T, bad)


class Coarsest(TestCase):
    def test_fewest_lots_of_all(self):
        for algebra in SMALL_ALGEBRAS + THREES:
            every = mergings(algebra)
            for lot in lots_of_numbers(range(algebra[1])):
                fits = [m for m in every if all(len({a in lot for a in part}) == 1 for part in m)]
                best = min(len(m) for m in fits)
                self.assertEqual([m for m in fits if len(m) == best], [coarsest(algebra, lot)])

    def test_none_and_all(self):
        for algebra in ALGEBRAS + THREES:
            whole = tuple(range(algebra[1]))
            self.assertEqual(coarsest(algebra, ()), (whole,))
            self.assertEqual(coarsest(algebra, whole), (whole,))

    def test_by_hand(self):
        self.assertEqual(coarsest(T, (2,)), ((0,), (1,), (2,)))
        self.assertEqual(coarsest(T, (0,)), ((0,), (1, 2)))
        self.assertEqual(coarsest(tallied(7), (0,)), ((0,), (1, 2, 3, 4, 5, 6, 7)))
        self.assertEqual(coarsest(tallied(7), (0, 1)), ((0,), (1,), (2, 3, 4, 5, 6, 7)))
        self.assertEqual(coarsest(borne(3), (1, 3, 5, 7)), ((0, 2, 4, 6), (1, 3, 5, 7)))

    def test_bad_lots(self):
        for bad in odd_values() + [(3,), (-1,), (1, 0), (1, 1), [1], 1, (True,), (1.0,), (0, 1, 2, 3), ("1",), (None,)]:
            self.assertRaises(BadLot, coarsest, T, bad)
