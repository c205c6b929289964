"""[37], with [33], [36]: readers with a name hidden."""

from itertools import product
from unittest import TestCase

from alongall.changing import backward, widened
from alongall.combining import contrary, joining, meeting
from alongall.errors import BadName, BadReader, TooMany
from alongall.hiding import hidden
from alongall.least import least
from alongall.readers import takes
from alongall.weaves import written
from tests.odd import odd_values
from tests.oracles import lots_by_hand, same_words
from tests.samples import (
    A, ALGEBRAS, NONE, THREES, X, back, borne, led, letters_by_hand, many_weaves, mix, on, ordered, tallied, then,
)
from tests.test_least import NONE_AT_ALL
from tests.test_lots import values_by_hand
from tests.test_readers import ONE_X, many_readers

SOME_PLACE = ("algebra", 2, ((0, 1), (1, 1)), (0, 1), (0, 1), (0, 0, 1, 1))


def lots_of_reader(reader, name):
    """The lots of l and of l with name, in order, in the least reader."""
    _, scope, algebra, starts, _ = least(reader)
    letters = letters_by_hand(scope)
    found = []
    for letter in letters_by_hand(tuple(other for other in scope if other != name)):
        marked = tuple(sorted(letter + (name,)))
        found.append(tuple(sorted({starts[letters.index(letter)], starts[letters.index(marked)]})))
    return algebra, tuple(found)


def told(reader, name):
    """hidden, None for TooMany(10), which comes exactly if more than ten lots are come to; then TooMany(8)."""
    right = lots_by_hand(*lots_of_reader(reader, name))
    try:
        return hidden(reader, name)
    except TooMany as wrong:
        assert wrong.most == (10 if right is None else 8)
        return None


class Hidden(TestCase):
    def test_examples_by_hand(self):
        # [38]
        self.assertEqual(hidden(ONE_X, "x"), ("reader", (), SOME_PLACE, (1,), (1,)))
        self.assertEqual(hidden(contrary(ONE_X), "x"), ("reader", (), NONE_AT_ALL, (0,), (0,)))
        self.assertEqual(hidden(("reader", ("x",), tallied(2), (0, 1), ()), "x"), ("reader", (), NONE_AT_ALL, (0,), ()))

    def test_first_middle_last(self):
        # Some place bears just one of three names.
        scope = ("f", "m", "z")
        for name in scope:
            starts = tuple(1 if letter == (name,) else 0 for letter in letters_by_hand(scope))
            reader = ("reader", scope, tallied(1), starts, (1,))
            for other in scope:
                rest = tuple(sorted(set(scope) - {other}))
                if other == name:
                    # Some place bears no name any more.
                    right = tuple(1 if letter == () else 0 for letter in letters_by_hand(rest))
                else:
                    right = tuple(1 if letter == (name,) else 0 for letter in letters_by_hand(rest))
                self.assertEqual(hidden(reader, other), ("reader", rest, tallied(1), right, (1,)), (name, other))

    def test_finite_words(self):
        for reader in many_readers(50, 60, (("x",), ("x", "y"), ("a", "x"))):
            scope = reader[1]
            rest = tuple(name for name in scope if name != "x")
            found = told(reader, "x")
            if found is None:
                continue
            self.assertEqual(found[1], rest)
            self.assertEqual(least(found), found)
            for many in range(4):
                for row in list(product(letters_by_hand(rest), repeat=many))[::3]:
                    marked = [
                        written(scope, tuple(tuple(sorted(letter + mark)) for letter, mark in zip(row, marks)))
                        for marks in product(((), ("x",)), repeat=many)]
                    right = any(takes(reader, weave) for weave in marked)
                    self.assertIs(takes(found, written(rest, row)), right)

    def test_all_words(self):
        for reader in many_readers(51, 60, (("x",), ("x", "y"))) + many_readers(52, 12, (("x",),), ALGEBRAS[:4]):
            found = told(reader, "x")
            if found is None:
                continue
            algebra, given = lots_of_reader(reader, "x")
            for weave in many_weaves(53, found[1], 4, 5) + [NONE, A, on(A), back(A), mix(A)]:
                values = values_by_hand(algebra, found[1], given, weave)
                self.assertIs(takes(found, weave), any(a in least(reader)[4] for a in values))

    def test_words_of_every_kind_by_hand(self):
        # A first x is there; an x without one ahead or behind; finitely many x, endless many.
        first = ("reader", ("x",), led(1), (0, 2), (2,))
        for weave, right in ((NONE, False), (A, True), (back(A), True), (mix(A), True)):
            self.assertIs(takes(hidden(first, "x"), weave), right)
        no_first = ("reader", ("x",), led(1), (0, 2), (1,))
        for weave, right in ((NONE, False), (A, False), (on(A), False), (back(A), True), (mix(A), True), (then(on(A), back(A)), True)):
            self.assertIs(takes(hidden(no_first, "x"), weave), right)
        scattered = ("reader", ("x",), ordered(), (0, 1), (3,))
        for weave, right in ((on(back(A)), False), (mix(A), True), (on(on(mix(A))), True), (then(on(A), back(A)), False)):
            self.assertIs(takes(hidden(scattered, "x"), weave), right)

    def test_alike_readers(self):
        for reader in many_readers(54, 40, (("x",), ("x", "y"))):
            found = told(reader, "x")
            if found is not None:
                self.assertEqual(hidden(least(reader), "x"), found)
                self.assertTrue(same_words(found, hidden(reader=reader, name="x")))

    def test_hidden_of_a_joining(self):
        readers = [reader for reader in many_readers(55, 40, (("x",),)) if told(reader, "x") is not None]
        for one in readers[::3]:
            for other in readers[::4]:
                try:
                    both = joining(one, other)
                except TooMany:
                    continue
                found = told(both, "x")
                if found is not None:
                    self.assertEqual(found, joining(hidden(one, "x"), hidden(other, "x")))

    def test_two_names_in_either_order(self):
        many = 0
        for reader in many_readers(56, 60, (("x", "y"), ("a", "b", "c"))):
            one, other = reader[1][0], reader[1][-1]
            first, second = told(reader, one), told(reader, other)
            if first is None or second is None:
                continue
            first, second = told(first, other), told(second, one)
            if first is not None and second is not None:
                self.assertEqual(first, second)
                many += 1
        self.assertGreater(many, 20)

    def test_hidden_of_what_is_widened(self):
        for reader in many_readers(57, 30, ((), ("m",), ("m", "n"))):
            for name in ("a", "mm", "z"):
                wide = widened(reader, tuple(sorted(reader[1] + (name,))))
                self.assertEqual(hidden(wide, name), least(reader))

    def test_hidden_of_what_is_turned(self):
        for reader in many_readers(58, 40, (("x",), ("x", "y"))):
            found = told(reader, "x")
            if found is not None:
                self.assertEqual(hidden(backward(reader), "x"), backward(found))

    def test_too_many(self):
        xyz = ("x", "y", "z")
        for reader, most in (
            (("reader", ("x", "y"), tallied(7), (5, 1, 1, 6), (1, 5, 6)), 8),
            (("reader", ("x", "y"), tallied(7), (6, 5, 1, 6), (3, 6)), 8),
            (("reader", ("x", "y"), tallied(7), (1, 2, 7, 4), (5, 6)), 8),
            (("reader", xyz, tallied(7), (2, 3, 2, 3, 4, 7, 6, 1), (0, 1, 2, 3, 5)), 8),
            (("reader", xyz, tallied(7), (4, 4, 6, 1, 0, 2, 4, 3), (1, 2, 5)), 10),
            (("reader", ("x", "y"), tallied(7), (1, 4, 1, 1), (0, 5)), 10),
            (("reader", xyz, tallied(3), (0, 0, 1, 1, 1, 0, 1, 3), (1, 2)), 10),
            (("reader", xyz, borne(3), (3, 4, 1, 1, 3, 6, 5, 7), (2, 4, 7)), 10),
        ):
            with self.assertRaises(TooMany) as caught:
                hidden(reader, "x")
            self.assertEqual(caught.exception.most, most)

    def test_just_eight_elements(self):
        told = hidden(("reader", ("x",), tallied(7), (1, 1), (7,)), "x")
        self.assertEqual(told[2][1], 8)
        self.assertEqual(told, least(("reader", (), tallied(7), (1,), (7,))))

    def test_errors_in_order(self):
        for bad in odd_values() + [ONE_X[:4], ("x",), "x"]:
            self.assertRaises(BadReader, hidden, bad, None)
        for bad in odd_values() + ["y", "", "xx", ("x",), ["x"], 0, b"x"]:
            self.assertRaises(BadName, hidden, ONE_X, bad)
        self.assertRaises(BadName, hidden, ("reader", (), tallied(1), (1,), (1,)), "x")
        self.assertRaises(BadName, hidden, ("reader", ("x",), tallied(1), (0, 1), (1,)), "y")

    def test_meeting_is_within(self):
        for one in many_readers(60, 12, (("x",),)):
            for other in many_readers(61, 5, (("x",),)):
                try:
                    both = meeting(one, other)
                    found, first, second = hidden(both, "x"), hidden(one, "x"), hidden(other, "x")
                    self.assertEqual(meeting(found, meeting(first, second)), found)
                except TooMany:
                    pass

    def test_borne_marks(self):
        # Both marks are borne somewhere, y hidden: x is borne, there are places.
        reader = ("reader", ("x", "y"), borne(2), (0, 1, 2, 3), (3,))
        self.assertEqual(hidden(reader, "y"), ("reader", ("x",), tallied(1), (0, 1), (1,)))
        for weave, right in ((NONE, False), (A, False), (X, True), (then(A, X), True), (on(X), True)):
            self.assertIs(takes(hidden(reader, "y"), weave), right)
