"""[35], and backward of [36]."""

from itertools import permutations
from unittest import TestCase

from alongall.changing import backward, renamed, widened
from alongall.errors import BadNames, BadReader, BadScope
from alongall.least import least
from alongall.readers import takes
from tests.odd import odd_values
from tests.samples import ALGEBRAS, A, X, back, led, many_weaves, mix, on, tallied, then, turned_by_hand
from tests.test_least import NONE_AT_ALL
from tests.test_readers import ONE_X, many_readers


def mapped(weave, change):
    """The weave with other letters."""
    if weave[0] == "letter":
        return ("letter", change(weave[1]))
    if weave[0] == "mix":
        return mix(*[mapped(part, change) for part in weave[1]])
    return weave[:1] + tuple(mapped(part, change) for part in weave[1:])


def left_out(weave, names):
    """The weave without these names."""
    return mapped(weave, lambda letter: tuple(name for name in letter if name not in names))


class Widened(TestCase):
    def test_by_hand(self):
        self.assertEqual(widened(ONE_X, ("x",)), ONE_X)
        self.assertEqual(widened(ONE_X, ("x", "y")), ("reader", ("x", "y"), tallied(2), (0, 1, 0, 1), (1,)))
        self.assertEqual(widened(ONE_X, ("a", "x")), ("reader", ("a", "x"), tallied(2), (0, 0, 1, 1), (1,)))
        self.assertEqual(widened(ONE_X, ("a", "x", "y")), (
            "reader", ("a", "x", "y"), tallied(2), (0, 0, 1, 1, 0, 0, 1, 1), (1,)))
        two = ("reader", ("a", "c"), tallied(3), (0, 1, 2, 3), (2,))
        self.assertEqual(widened(two, ("a", "b", "c"))[3], (0, 1, 0, 1, 2, 3, 2, 3))
        none = ("reader", (), tallied(1), (1,), (1,))
        self.assertEqual(widened(none, ("x", "y")), ("reader", ("x", "y"), tallied(1), (1, 1, 1, 1), (1,)))

    def test_words(self):
        wide = {
            (): [(), ("q",), ("a", "b", "c")], ("x",): [("x",), ("a", "x"), ("x", "y"), ("a", "x", "z"), ("a", "b", "x")],
            ("x", "y"): [("x", "y"), ("a", "x", "y"), ("x", "xx", "y"), ("x", "y", "z")],
        }
        for reader in many_readers(20, 120):
            for scope in wide[reader[1]]:
                told = widened(reader, scope)
                self.assertEqual(told[1], scope)
                self.assertEqual(least(told), told)
                for weave in many_weaves(21, scope, 4, 6):
                    other = left_out(weave, [name for name in scope if name not in reader[1]])
                    self.assertIs(takes(told, weave), takes(reader, other))

    def test_least(self):
        for reader in many_readers(22, 60):
            self.assertEqual(widened(reader, reader[1]), least(reader))

    def test_errors(self):
        for bad in odd_values() + [ONE_X[:4]]:
            self.assertRaises(BadReader, widened, bad, None)
        for bad in odd_values() + [(), ("y",), ("y", "x"), ("a", "b", "c", "x"), ["x"], ("x", "x"), "x", ("all", "x"), ("x", 1)]:
            self.assertRaises(BadScope, widened, ONE_X, bad)
        self.assertEqual(widened(reader=ONE_X, scope=("x",)), ONE_X)


class Renamed(TestCase):
    def test_by_hand(self):
        self.assertEqual(renamed(ONE_X, ("x",)), ONE_X)
        self.assertEqual(renamed(ONE_X, ("b",)), ("reader", ("b",), tallied(2), (0, 1), (1,)))
        two = ("reader", ("x", "y"), tallied(3), (0, 1, 2, 3), (2,))
        self.assertEqual(renamed(two, ("a", "b")), ("reader", ("a", "b"), tallied(3), (0, 1, 2, 3), (2,)))
        told = renamed(two, ("b", "a"))
        self.assertEqual(told[1], ("a", "b"))
        self.assertEqual(told, least(("reader", ("a", "b"), tallied(3), (0, 2, 1, 3), (2,))))
        self.assertEqual(renamed(("reader", (), tallied(1), (1,), (1,)), ()), ("reader", (), tallied(1), (1,), (1,)))

    def test_words_and_back(self):
        scopes = ((), ("x",), ("x", "y"), ("a", "m", "x"))
        for reader in many_readers(23, 80, scopes):
            scope = reader[1]
            for names in list(permutations(("b", "k", "z")))[::2]:
                names = names[:len(scope)]
                told = renamed(reader, names)
                self.assertEqual(told[1], tuple(sorted(names)))
                self.assertEqual(least(told), told)
                new = dict(zip(scope, names))
                for weave in many_weaves(24, scope, 4, 4):
                    other = mapped(weave, lambda letter: tuple(sorted(new[name] for name in letter)))
                    self.assertIs(takes(told, other), takes(reader, weave))
                old = dict(zip(names, scope))
                self.assertEqual(renamed(told, tuple(old[name] for name in told[1])), least(reader))

    def test_exchanged(self):
        reader = ("reader", ("x", "y"), led(2), (0, 2, 3, 1), (2,))
        told = renamed(reader, ("y", "x"))
        self.assertEqual(told[1], ("x", "y"))
        self.assertTrue(takes(reader, X))
        self.assertFalse(takes(told, X))
        self.assertTrue(takes(told, ("letter", ("y",))))
        self.assertEqual(renamed(told, ("y", "x")), least(reader))

    def test_errors(self):
        two = ("reader", ("x", "y"), tallied(3), (0, 1, 2, 3), (2,))
        for bad in odd_values() + [two[:4]]:
            self.assertRaises(BadReader, renamed, bad, None)
        for bad in odd_values() + [("a", "a"), ("a",), ("a", "b", "c"), ("a", "a", "b"), (), ["a", "b"], ("a", "all"), ("a", "B"), "ab", ("a", None)]:
            self.assertRaises(BadNames, renamed, two, bad)
        self.assertEqual(renamed(reader=ONE_X, names=("x",)), ONE_X)


class Backward(TestCase):
    def test_example_by_hand(self):
        # [38]
        self.assertEqual(backward(ONE_X), ONE_X)

    def test_words(self):
        for reader in many_readers(25, 120) + many_readers(26, 10, algebras=ALGEBRAS):
            told = backward(reader)
            self.assertEqual(least(told), told)
            self.assertEqual(backward(told), least(reader))
            for weave in many_weaves(27, reader[1], 4, 6):
                self.assertIs(takes(told, weave), takes(reader, turned_by_hand(weave)))

    def test_first_and_last(self):
        first = ("reader", ("x",), led(2), (2, 3), (3,))
        last = backward(first)
        self.assertNotEqual(last, least(first))
        for weave, right in ((then(A, X), True), (then(X, A), False), (on(X), False), (then(on(A), X), True), (back(X), True)):
            self.assertIs(takes(last, weave), right)

    def test_nothing(self):
        self.assertEqual(backward(("reader", (), led(1), (2,), ())), ("reader", (), NONE_AT_ALL, (0,), ()))

    def test_errors(self):
        for bad in odd_values() + [ONE_X[:4]]:
            self.assertRaises(BadReader, backward, bad)
        self.assertEqual(backward(reader=ONE_X), ONE_X)
