"""[16]: ways over."""

from itertools import product
from random import Random
from unittest import TestCase

from alongall.algebras import value
from alongall.building import made
from alongall.errors import BadAlgebra, BadGiven
from alongall.merging import is_merging, merged
from alongall.ways import clash, is_clash, is_way, way_of
from alongall.weaves import is_weave
from tests.odd import Strange, odd_values, spoiled
from tests.oracles import lots_of_numbers, mixed_in, walk_by_hand
from tests.samples import A, ALGEBRAS, NONE, THREES, X, Y, back, borne, flipped_by_hand, led, letters_by_hand, mix, on, ordered, tallied, then
from tests.test_algebras import BREAKS_ONE
from tests.test_flaws import SEATS, seats_spoken_of
from tests.test_lengths import going_round

XYZ = ("x", "y", "z")
SMALL = tuple(table for table in ALGEBRAS + THREES + (going_round(2), going_round(3)) if table[1] <= 5)
T = tallied(2)


def is_way_by_hand(one, other, thing):
    if thing[0] != 0:
        return False
    for a, b in product(range(one[1]), repeat=2):
        if thing[one[2][a][b]] != other[2][thing[a]][thing[b]]:
            return False
    if any(thing[one[part][a]] != other[part][thing[a]] for part in (3, 4) for a in range(one[1])):
        return False
    return all(thing[mixed_in(one, lot)] == mixed_in(other, [thing[a] for a in lot]) for lot in lots_of_numbers(range(one[1])))


def all_ways(one, other):
    return [thing for thing in product(range(other[1]), repeat=one[1]) if thing[0] == 0 and is_way_by_hand(one, other, thing)]


class IsWay(TestCase):
    def test_each_tuple(self):
        ways = 0
        for one, other in Random(680).sample(list(product(SMALL, repeat=2)), 90):
            if other[1] ** one[1] > 700:
                continue
            for thing in product(range(other[1]), repeat=one[1]):
                told = is_way_by_hand(one, other, thing)
                self.assertIs(is_way(one, other, thing), told)
                ways += told
        self.assertGreater(ways, 50)

    def test_by_hand(self):
        for one, other, thing, right in (
            (T, tallied(1), (0, 1, 1), True), (T, T, (0, 1, 2), True), (T, T, (0, 0, 0), True), (T, T, (0, 2, 2), True), (T, T, (0, 1, 1), False),
            (tallied(1), T, (0, 2), True), (tallied(1), T, (0, 1), False), (T, tallied(1), (1, 1, 1), False), (tallied(7), T, (0, 1) + (2,) * 6, True),
            (borne(2), borne(2), (0, 2, 1, 3), True), (borne(2), borne(2), (0, 1, 1, 1), True), (borne(2), borne(2), (0, 1, 2, 2), False),
            (ordered(), tallied(1), (0, 1, 1, 1), True), (ordered(), ordered(), (0, 3, 3, 3), True), (ordered(), ordered(), (0, 2, 2, 3), True),
            (ordered(), ordered(), (0, 1, 1, 3), False), (led(2), led(1), (0, 1, 2, 2), True), (led(2), flipped_by_hand(led(2)), (0, 1, 2, 3), False),
        ):
            self.assertIs(is_way(one, other, thing), right, (one[1], other[1], thing))
            self.assertEqual(is_way_by_hand(one, other, thing), right)

    def test_any_value(self):
        for thing in odd_values() + list(spoiled((0, 1, 1))) + [(0, 1), (0, 1, 1, 1), (0, 1, 2), (False, 1, 1), (0, True, 1), [0, 1, 1], (0, 1, Strange())]:
            self.assertIs(is_way(T, tallied(1), thing), False)
        for bad in odd_values() + list(BREAKS_ONE):
            self.assertRaises(BadAlgebra, is_way, bad, None, None)
            self.assertRaises(BadAlgebra, is_way, T, bad, None)
        self.assertIs(is_way(one=T, other=T, thing=(0, 1, 2)), True)


class WayOf(TestCase):
    def check(self, one, other, given):
        told, parted = way_of(one, other, given), clash(one, other, given)
        ways = [thing for thing in all_ways(one, other) if all(thing[a] == b for a, b in given)] if other[1] ** one[1] < 3000 else None
        self.assertEqual(told is None, parted is not None)
        if ways is not None:
            self.assertEqual(ways, [] if told is None else [told])
        if told is not None:
            self.assertIs(is_way(one, other, told), True)
        else:
            self.assertIs(is_clash(one, other, given, parted), True)
            self.check_clash(one, other, given, parted)
        return told

    def check_clash(self, one, other, given, parted):
        first, second = parted
        self.assertTrue(is_weave(XYZ, first) and is_weave(XYZ, second))
        self.assertTrue(all(seat < len(given) for seat in seats_spoken_of(first) | seats_spoken_of(second)))
        starts = tuple(a for a, _ in given) + (0,) * (8 - len(given))
        self.assertEqual(value(one, XYZ, starts, first), value(one, XYZ, starts, second))
        starts = tuple(b for _, b in given) + (0,) * (8 - len(given))
        self.assertNotEqual(value(other, XYZ, starts, first), value(other, XYZ, starts, second))

    def test_examples_by_hand(self):
        # [18]
        self.assertEqual(way_of(T, tallied(1), ((1, 1),)), (0, 1, 1))
        self.assertIsNone(way_of(tallied(1), T, ((1, 1),)))
        self.assertIs(is_clash(tallied(1), T, ((1, 1),), (A, then(A, A))), True)
        self.check(tallied(1), T, ((1, 1),))
        self.assertEqual(way_of(T, T, ((1, 2),)), (0, 2, 2))
        self.assertEqual(way_of(T, T, ((1, 0),)), (0, 0, 0))
        self.assertEqual(way_of(T, T, ((1, 1), (2, 2))), (0, 1, 2))
        self.assertIsNone(way_of(T, T, ((1, 1), (2, 1))))
        self.assertIsNone(way_of(T, T, ((1, 1), (1, 2))))
        self.assertIsNone(way_of(T, T, ((0, 1), (1, 1))))
        self.assertEqual(way_of(("algebra", 1, ((0,),), (0,), (0,), (0, 0)), T, ()), (0,))
        self.assertEqual(way_of(borne(2), borne(2), ((1, 2), (2, 1))), (0, 2, 1, 3))
        self.assertEqual(way_of(borne(2), borne(2), ((1, 1), (2, 1))), (0, 1, 1, 1))

    def test_each_pair_of_algebras(self):
        random = Random(681)
        told = {True: 0, False: 0}
        for _ in range(400):
            one, other = random.choice(SMALL), random.choice(SMALL)
            given = tuple((a, random.randrange(other[1])) for a in random.sample(range(one[1]), random.randrange(1, one[1] + 1)))
            if len(walk_by_hand((one,), [(a,) for a, _ in given])) < one[1]:
                self.assertRaises(BadGiven, way_of, one, other, given)
                continue
            told[self.check(one, other, given) is not None] += 1
        self.assertGreater(min(told.values()), 40)

    def test_large_algebras(self):
        for one, other, given in (
            (tallied(7), tallied(7), ((1, 1),)), (tallied(7), tallied(7), ((1, 2),)), (tallied(7), tallied(6), ((1, 1),)), (tallied(6), tallied(7), ((1, 1),)),
            (borne(3), borne(3), ((1, 2), (2, 4), (4, 1))), (borne(3), borne(3), ((1, 3), (2, 4), (4, 1))), (borne(3), tallied(7), ((1, 1), (2, 2), (4, 3))),
            (led(6), led(6), tuple((a, 9 - a) for a in range(2, 8))), (led(6), led(1), tuple((a, 2) for a in range(2, 8))),
            (led(6), led(2), tuple((a, 2 + a % 2) for a in range(2, 8))), (borne(3), led(6), ((1, 2), (2, 3), (4, 4))),
            (led(6), borne(3), tuple((a, a) for a in range(2, 8))), (tallied(7), borne(3), ((1, 5), (2, 5), (3, 7))),
        ):
            self.check(one, other, given)

    def test_merged_ones(self):
        # FACT: the lots of elements of which the same is told are a merging; merged by it goes over to what is met.
        random = Random(682)
        many = 0
        for _ in range(300):
            one, other = random.choice(SMALL), random.choice(SMALL)
            for thing in random.sample(all_ways(one, other), 1) if other[1] ** one[1] < 700 else []:
                lots = tuple(sorted(tuple(a for a in range(one[1]) if thing[a] == b) for b in set(thing)))
                self.assertTrue(is_merging(one, lots))
                small = merged(one, lots)
                over = tuple(thing[lot[0]] for lot in lots)
                self.assertTrue(is_way(small, other, over))
                table, line = made(other, tuple(sorted(set(thing))))
                self.assertEqual(sorted(line), sorted(set(thing)))
                self.assertTrue(is_way(small, table, tuple(line.index(b) for b in over)))
                many += 1
        self.assertGreater(many, 100)

    def test_errors_in_order(self):
        for function in (way_of, clash, lambda one, other, given: is_clash(one, other, given, None)):
            for bad in odd_values() + list(BREAKS_ONE):
                self.assertRaises(BadAlgebra, function, bad, None, None)
                self.assertRaises(BadAlgebra, function, T, bad, None)
            for bad in odd_values() + list(spoiled(((1, 1),))) + [
                    (), ((0, 0),), ((2, 1),), ((1, 3),), ((3, 1),), ((1, 1),) * 9, ((1,),), ((1, 1, 1),), [(1, 1)], ([1, 1],), ((True, 1),), ((1, True),)]:
                self.assertRaises(BadGiven, function, T, T, bad)
        self.assertIsNone(clash(one=T, other=T, given=((1, 1),) * 8))
        self.assertEqual(way_of(one=T, other=T, given=((1, 1),) * 8), (0, 1, 2))


class IsClash(TestCase):
    def test_pairs(self):
        one, other, given = tallied(1), T, ((1, 1),)
        for first, second, right in (
            (A, then(A, A), True), (then(A, A), A, True), (on(A), A, True), (mix(A), A, True), (on(A), back(A), False), (A, A, False), (A, NONE, False),
            (then(A, NONE), A, False), (X, then(X, X), False), (A, then(A, X), False), (NONE, X, False), (then(A, A), mix(A), False),
        ):
            self.assertIs(is_clash(one, other, given, (first, second)), right, (first, second))
        given = ((1, 1), (1, 2))
        for first, second, right in ((A, X, True), (A, then(X, X), True), (X, then(X, X), False), (A, Y, False), (then(A, A), X, False)):
            self.assertIs(is_clash(one, other, given, (first, second)), right)

    def test_every_seat(self):
        given = ((1, 1),) * 7 + ((1, 2),)
        for seat in range(8):
            self.assertIs(is_clash(tallied(1), T, given, (SEATS[0], SEATS[seat])), seat == 7)
            short = given[:seat] + ((1, 2),)
            self.assertIs(is_clash(tallied(1), T, short, (then(SEATS[seat], NONE), SEATS[0])), seat > 0)
            self.assertIs(is_clash(tallied(1), T, short[:-1] or ((1, 1),), (SEATS[seat], then(SEATS[0], A))), 0 < seat < len(short[:-1]) or (seat == 0))
        self.assertEqual(SEATS, tuple(("letter", letter) for letter in letters_by_hand(XYZ)))

    def test_any_value(self):
        given = ((1, 1),)
        pair = (A, then(A, A))
        for thing in odd_values() + list(spoiled(pair)) + [pair + (A,), pair[:1], list(pair), (A, None), (None, A), (Strange(), A), (A, ("letter", ("w",)))]:
            self.assertIs(is_clash(tallied(1), T, given, thing), False)
        self.assertIs(is_clash(one=tallied(1), other=T, given=given, thing=pair), True)
        self.assertIs(is_clash(T, T, given, pair), False)
        self.assertEqual(back(A)[0], "back")
        self.assertEqual(ordered()[1], 4)
