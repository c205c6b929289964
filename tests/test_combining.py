"""[34]: what readers do not take, what both take, what one of them takes."""

from unittest import TestCase

from alongall.combining import contrary, joining, meeting
from alongall.errors import BadReader, OtherScope, TooMany
from alongall.least import least
from alongall.readers import takes
from tests.odd import odd_values
from tests.oracles import walk_by_hand
from tests.samples import A, ALGEBRAS, NONE, X, borne, led, many_weaves, on, table_by, tallied, then
from tests.test_least import NONE_AT_ALL
from tests.test_readers import ONE_X, many_readers

XYZ = ("x", "y", "z")


def pairs_met(one, other):
    one, other = least(one), least(other)
    return len(walk_by_hand((one[2], other[2]), list(zip(one[3], other[3]))))


def counted(name, most, taken, scope=("x", "y")):
    """How many places bear a name, counted up to most."""
    at = scope.index(name)
    return ("reader", scope, tallied(most), tuple(number >> at & 1 for number in range(1 << len(scope))), taken)


def no_z_and_five_x():
    """No place bears z, and five or more bear x: counts up to 5, and 6 for words with a z."""
    def added(a, b):
        return 6 if 6 in (a, b) else min(a + b, 5)

    def endless(a):
        return {0: 0, 6: 6}.get(a, 5)
    table = table_by(7, added, endless, endless, lambda lot: 6 if 6 in lot else 5 if any(lot) else 0)
    return ("reader", XYZ, table, (0, 1, 0, 1, 6, 6, 6, 6), (5,))


class Contrary(TestCase):
    def test_example_by_hand(self):
        self.assertEqual(contrary(ONE_X), ("reader", ("x",), tallied(2), (0, 1), (0, 2)))

    def test_words(self):
        for reader in many_readers(30, 150) + many_readers(31, 10, algebras=ALGEBRAS):
            told = contrary(reader)
            self.assertEqual(told[1], reader[1])
            self.assertEqual(least(told), told)
            self.assertEqual(contrary(told), least(reader))
            for weave in many_weaves(32, reader[1], 4, 6) + [NONE, on(A)]:
                self.assertIs(takes(told, weave), not takes(reader, weave))

    def test_nothing_and_all(self):
        nothing = ("reader", (), NONE_AT_ALL, (0,), ())
        everything = ("reader", (), NONE_AT_ALL, (0,), (0,))
        self.assertEqual(contrary(nothing), everything)
        self.assertEqual(contrary(everything), nothing)
        self.assertEqual(contrary(("reader", (), tallied(7), (0,), (1, 2))), everything)

    def test_errors(self):
        for bad in odd_values() + [ONE_X[:4]]:
            self.assertRaises(BadReader, contrary, bad)
        self.assertEqual(contrary(reader=contrary(reader=ONE_X)), ONE_X)


class Two(TestCase):
    def test_by_hand(self):
        some_x, some_y = counted("x", 1, (1,)), counted("y", 1, (1,))
        told = meeting(some_x, some_y)
        self.assertEqual(told[2], least(("reader", ("x", "y"), borne(2), (0, 1, 2, 3), (3,)))[2])
        self.assertEqual(told, ("reader", ("x", "y"), borne(2), (0, 1, 2, 3), (3,)))
        self.assertEqual(joining(some_x, some_y), ("reader", ("x", "y"), tallied(1), (0, 1, 1, 1), (1,)))
        two = ("reader", ("x",), tallied(2), (0, 1), (2,))
        self.assertEqual(joining(ONE_X, two), ("reader", ("x",), tallied(1), (0, 1), (1,)))
        self.assertEqual(meeting(ONE_X, two), ("reader", ("x",), NONE_AT_ALL, (0, 0), ()))

    def test_words(self):
        for scope in ((), ("x",), ("x", "y")):
            readers = many_readers(33, 24, (scope,))
            for one in readers:
                for other in readers[::5]:
                    if pairs_met(one, other) > 8:
                        continue
                    both, some = meeting(one, other), joining(one, other)
                    self.assertEqual(least(both), both)
                    self.assertEqual(least(some), some)
                    self.assertEqual((both[1], some[1]), (scope, scope))
                    for weave in many_weaves(34, scope, 4, 4):
                        told = (takes(one, weave), takes(other, weave))
                        self.assertIs(takes(both, weave), all(told))
                        self.assertIs(takes(some, weave), any(told))

    def test_equal_as_all_are_least(self):
        readers = many_readers(35, 18, (("x",),))
        for one in readers:
            self.assertEqual(meeting(one, one), least(one))
            self.assertEqual(joining(one, one), least(one))
            self.assertEqual(meeting(one, contrary(one)), ("reader", ("x",), NONE_AT_ALL, (0, 0), ()))
            self.assertEqual(joining(one, contrary(one)), ("reader", ("x",), NONE_AT_ALL, (0, 0), (0,)))
            for other in readers:
                if pairs_met(one, other) <= 8:
                    self.assertEqual(joining(one, other), contrary(meeting(contrary(one), contrary(other))))
                    self.assertEqual(meeting(one, other), meeting(other, one))

    def test_more_than_fourteen_pairs(self):
        for one, other in (
            (counted("x", 2, (2,)), counted("y", 4, (4,))), (counted("x", 7, (7,)), counted("y", 1, (1,))),
            (counted("x", 7, (7,)), counted("y", 7, (7,))),
        ):
            self.assertGreater(least(one)[2][1] * least(other)[2][1], 14)
            for ask in (meeting, joining):
                with self.assertRaises(TooMany) as caught:
                    ask(one, other)
                self.assertEqual(caught.exception.most, 14)

    def test_more_than_eight_elements(self):
        for one, other in (
            (counted("x", 2, (2,)), counted("y", 2, (2,))), (counted("x", 4, (4,)), counted("y", 1, (1,))),
            (counted("x", 6, (6,)), counted("y", 1, (1,))),
        ):
            self.assertIn(pairs_met(one, other), (9, 10, 14))
            with self.assertRaises(TooMany) as caught:
                meeting(one, other)
            self.assertEqual(caught.exception.most, 8)
            with self.assertRaises(TooMany) as caught:
                joining(contrary(one), contrary(other))
            self.assertEqual(caught.exception.most, 8)

    def test_just_eight_elements(self):
        one, other = counted("x", 3, (3,)), counted("y", 1, (1,))
        for told in (meeting(one, other), joining(contrary(one), contrary(other))):
            self.assertEqual(told[2][1], 8)
            self.assertEqual(least(told), told)
        self.assertEqual(joining(one, other)[2][1], 4)

    def test_just_fourteen_pairs(self):
        one = no_z_and_five_x()
        other = ("reader", XYZ, borne(2), (0, 0, 1, 1, 2, 2, 3, 3), (3,))
        self.assertEqual(least(one)[2][1], 7)
        self.assertEqual(pairs_met(one, other), 14)
        self.assertEqual(meeting(one, other), ("reader", XYZ, NONE_AT_ALL, (0,) * 8, ()))
        with self.assertRaises(TooMany) as caught:
            joining(one, other)
        self.assertEqual(caught.exception.most, 8)

    def test_pairs_of_least_ones_count(self):
        # Large readers with few classes: few pairs are met of their least ones.
        one = ("reader", ("x", "y"), tallied(7), (0, 1, 0, 1), (1, 2, 3, 4, 5, 6, 7))
        other = ("reader", ("x", "y"), tallied(7), (0, 0, 1, 1), (1, 2, 3, 4, 5, 6, 7))
        self.assertEqual(meeting(one, other), ("reader", ("x", "y"), borne(2), (0, 1, 2, 3), (3,)))

    def test_first_and_any(self):
        first = ("reader", ("x",), led(2), (2, 3), (3,))
        told = meeting(first, ONE_X)
        self.assertTrue(takes(told, then(X, A)))
        self.assertFalse(takes(told, then(A, X)))
        self.assertFalse(takes(told, then(X, X)))
        self.assertTrue(takes(joining(first, ONE_X), then(A, X)))

    def test_errors_in_order(self):
        other = counted("y", 7, (7,), ("y",))
        for ask in (meeting, joining):
            for bad in odd_values() + [ONE_X[:4]]:
                self.assertRaises(BadReader, ask, bad, bad)
                self.assertRaises(BadReader, ask, ONE_X, bad)
            self.assertRaises(OtherScope, ask, ONE_X, other)
            self.assertRaises(OtherScope, ask, counted("x", 7, (7,)), counted("y", 7, (7,), XYZ))
            self.assertEqual(ask(one=ONE_X, other=ONE_X), ONE_X)
