"""[33], with [15] and [32]: least readers."""

from itertools import permutations
from random import Random
from unittest import TestCase

from alongall.building import made
from alongall.chains import around, parting
from alongall.errors import BadReader
from alongall.least import least
from alongall.readers import is_reader, takes
from tests.odd import odd_values, spoiled
from tests.oracles import moved, same_words, walk_by_hand
from tests.samples import ALGEBRAS, THREES, borne, led, many_weaves, ordered, tallied
from tests.test_readers import ONE_X, many_readers

NONE_AT_ALL = ("algebra", 1, ((0,),), (0,), (0,), (0, 0))


class Least(TestCase):
    def check_least(self, reader):
        """That it is the least reader of its words, by HEART (one least reader)."""
        self.assertTrue(is_reader(reader))
        _, scope, algebra, starts, taken = reader
        self.assertEqual(made(algebra, starts), (algebra, tuple(range(algebra[1]))))
        for first in range(algebra[1]):
            for last in range(first):
                told = parting(algebra, taken, first, last)
                self.assertIsNotNone(told)
                self.assertLessEqual(len(told), max(algebra[1] - 2, 0))
        self.assertEqual(least(reader), reader)

    def test_example_by_hand(self):
        # [38]
        self.assertEqual(least(ONE_X), ONE_X)

    def test_some_readers(self):
        for reader in many_readers(10, 250) + many_readers(11, 20, algebras=ALGEBRAS):
            told = least(reader)
            self.check_least(told)
            self.assertEqual(told[1], reader[1])
            self.assertLessEqual(told[2][1], reader[2][1])
            if reader[2][1] <= 5:
                self.assertTrue(same_words(reader, told))
            for weave in many_weaves(12, reader[1], 4, 6):
                self.assertIs(takes(told, weave), takes(reader, weave))

    def test_alike_exactly_if_least_ones_are_equal(self):
        readers = [reader for reader in many_readers(13, 60, (("x",),)) if reader[2][1] <= 3]
        for one in readers:
            for other in readers[::3]:
                self.assertEqual(same_words(one, other), least(one) == least(other))

    def test_elements_in_other_seats(self):
        random = Random(14)
        for reader in many_readers(15, 60, algebras=ALGEBRAS):
            order = list(range(1, reader[2][1]))
            random.shuffle(order)
            other = moved(reader, [0] + order)
            self.assertTrue(is_reader(other))
            self.assertEqual(least(other), least(reader))
        for order in permutations((1, 2)):
            self.assertEqual(least(moved(ONE_X, (0,) + order)), ONE_X)

    def test_elements_that_are_not_met(self):
        # Of seven marks only one is ever borne, and of the counts only even ones come.
        reader = ("reader", ("x",), borne(3), (0, 4), (4, 5, 6))
        told = ("algebra", 2, ((0, 1), (1, 1)), (0, 1), (0, 1), (0, 0, 1, 1))
        self.assertEqual(least(reader), ("reader", ("x",), told, (0, 1), (1,)))
        reader = ("reader", (), tallied(7), (2,), (1, 3, 5))
        self.assertEqual(least(reader), ("reader", (), NONE_AT_ALL, (0,), ()))
        reader = ("reader", (), tallied(7), (2,), (6, 7))
        self.assertEqual(walk_by_hand((tallied(7),), [(2,)]), [(0,), (2,), (4,), (7,), (6,)])
        self.assertEqual(least(reader), ("reader", (), tallied(3), (1,), (3,)))

    def test_elements_that_are_like(self):
        reader = ("reader", ("x",), tallied(7), (0, 1), (3, 4, 5, 6, 7))
        self.assertEqual(least(reader), ("reader", ("x",), tallied(3), (0, 1), (3,)))
        reader = ("reader", (), ordered(), (1,), (0, 1, 2, 3))
        self.assertEqual(least(reader), ("reader", (), NONE_AT_ALL, (0,), (0,)))
        reader = ("reader", (), ordered(), (1,), (0, 1))
        self.assertEqual(least(reader)[2][1], 3)
        reader = ("reader", (), ordered(), (1,), (2,))
        self.assertEqual(least(reader), reader)
        reader = ("reader", ("x",), led(6), (2, 3), (2, 4))
        self.check_least(least(reader))
        self.assertEqual(least(reader)[2][1], 3)

    def test_nothing_or_all_taken(self):
        for reader in many_readers(16, 60, algebras=ALGEBRAS):
            head, scope, algebra, starts, _ = reader
            many = 1 << len(scope)
            nothing = least((head, scope, algebra, starts, ()))
            self.assertEqual(nothing, ("reader", scope, NONE_AT_ALL, (0,) * many, ()))
            everything = least((head, scope, algebra, starts, tuple(range(algebra[1]))))
            self.assertEqual(everything, ("reader", scope, NONE_AT_ALL, (0,) * many, (0,)))

    def test_order_of_a_walk(self):
        # The start of x is met behind 0, which the letter without x has: the count of two is met third.
        reader = ("reader", ("x",), moved(ONE_X, (0, 2, 1))[2], (0, 2), (2,))
        self.assertEqual(least(reader), ONE_X)
        reader = ("reader", ("x",), borne(2), (2, 1), (1, 3))
        told = least(reader)
        self.assertEqual(told, ("reader", ("x",), tallied(1), (0, 1), (1,)))
        reader = ("reader", ("x",), borne(2), (2, 1), (1,))
        self.assertEqual(least(reader)[3:], ((1, 2), (2,)))

    def test_parting_surroundings(self):
        reader = least(("reader", ("x",), tallied(7), (0, 1), (7,)))
        self.check_least(reader)
        told = parting(reader[2], reader[4], 5, 6)
        self.assertNotEqual(around(reader[2], told, 5) in reader[4], around(reader[2], told, 6) in reader[4])

    def test_all_algebras_of_three(self):
        for algebra in THREES:
            for start in range(3):
                for taken in ((), (0,), (1,), (2,), (0, 1), (0, 2), (1, 2), (0, 1, 2)):
                    self.check_least(least(("reader", (), algebra, (start,), taken)))

    def test_errors(self):
        for bad in odd_values() + list(spoiled(ONE_X)):
            self.assertRaises(BadReader, least, bad)
        self.assertEqual(least(reader=ONE_X), ONE_X)
