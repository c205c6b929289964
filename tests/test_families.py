"""[17]: families of algebras."""

from random import Random
from unittest import TestCase

from alongall.algebras import is_algebra, value
from alongall.errors import BadNumber
from alongall.families import bearing, leading, ordering, tallying
from alongall.weaves import length, letters_in
from tests.odd import odd_values
from tests.samples import (
    A, NONE, X, Y, back, borne, led, letters_by_hand, many_weaves, mix, on, ordered, parts_by_hand, tallied, then,
)
from tests.test_kinds import kind_by_hand

XY = ("x", "y")


def dropped(weave, scope, starts):
    """The weave without the places whose start is 0."""
    if weave[0] == "letter":
        return weave if starts[letters_by_hand(scope).index(weave[1])] else NONE
    if weave[0] == "none":
        return weave
    parts = [dropped(part, scope, starts) for part in parts_by_hand(weave)]
    return mix(*parts) if weave[0] == "mix" else (weave[0],) + tuple(parts)


def first_letter(weave):
    """The letter of the first place; None if there is no place, False if none is first."""
    head = weave[0]
    if head == "none":
        return None
    if head == "letter":
        return weave[1]
    told = [first_letter(part) for part in parts_by_hand(weave)]
    if head == "then":
        return told[1] if told[0] is None else told[0]
    if head == "on":
        return told[0]
    return None if all(one is None for one in told) else False


def total(weave, scope, starts):
    """The sum of the starts of all places; None if endless."""
    head = weave[0]
    if head == "none":
        return 0
    if head == "letter":
        return starts[letters_by_hand(scope).index(weave[1])]
    told = [total(part, scope, starts) for part in parts_by_hand(weave)]
    if head == "then":
        return None if None in told else sum(told)
    return 0 if all(one == 0 for one in told) else None


class Families(TestCase):
    def test_tables(self):
        self.assertEqual(
            tallying(2), ("algebra", 3, ((0, 1, 2), (1, 2, 2), (2, 2, 2)), (0, 2, 2), (0, 2, 2), (0, 0, 2, 2, 2, 2, 2, 2)))
        self.assertEqual(tallying(1), ("algebra", 2, ((0, 1), (1, 1)), (0, 1), (0, 1), (0, 0, 1, 1)))
        self.assertEqual(bearing(1), ("algebra", 2, ((0, 1), (1, 1)), (0, 1), (0, 1), (0, 0, 1, 1)))
        self.assertEqual(
            leading(1), ("algebra", 3, ((0, 1, 2), (1, 1, 1), (2, 2, 2)), (0, 1, 2), (0, 1, 1), (0, 0, 1, 1, 1, 1, 1, 1)))
        self.assertEqual(ordering()[1:5], (4, ((0, 1, 2, 3), (1, 1, 2, 3), (2, 2, 2, 3), (3, 3, 3, 3)), (0, 1, 2, 3), (0, 2, 2, 3)))
        self.assertEqual(ordering()[5], (0, 0) + (3,) * 14)
        for most in range(1, 8):
            self.assertEqual(tallying(most), tallied(most))
        for many in range(1, 4):
            self.assertEqual(bearing(many), borne(many))
        for many in range(1, 7):
            self.assertEqual(leading(many), led(many))
        self.assertEqual(ordering(), ordered())

    def test_algebras(self):
        for table in [tallying(most) for most in range(1, 8)] + [bearing(many) for many in range(1, 4)] + [
                leading(many) for many in range(1, 7)] + [ordering()]:
            self.assertTrue(is_algebra(table))

    def test_numbers(self):
        for ask, most in ((tallying, 7), (bearing, 3), (leading, 6)):
            for number in (0, -1, most + 1, most + 2, 10 ** 30, True, False, 1.0, "1", None, (1,), [1]):
                self.assertRaises(BadNumber, ask, number)
            for bad in odd_values():
                self.assertRaises(BadNumber, ask, bad)
            self.assertEqual(ask(most)[0], "algebra")
        self.assertEqual(tallying(most=3)[1], 4)
        self.assertEqual(bearing(many=3)[1], 8)
        self.assertEqual(leading(many=3)[1], 5)

    def test_values_by_places(self):
        # HEART (families).
        random = Random(170)
        for weave in many_weaves(171, XY, 5, 80):
            for most in (1, 3, 7):
                starts = tuple(random.randrange(most + 1) for _ in range(4))
                many = total(weave, XY, starts)
                self.assertEqual(value(tallying(most), XY, starts, weave), most if many is None else min(many, most))
            for many in (1, 2, 3):
                starts = tuple(random.randrange(1 << many) for _ in range(4))
                whole = 0
                for letter in letters_in(XY, weave):
                    whole = whole | starts[letters_by_hand(XY).index(letter)]
                self.assertEqual(value(bearing(many), XY, starts, weave), whole)
            for many in (1, 2, 6):
                starts = tuple(random.choice([0] + list(range(2, many + 2))) for _ in range(4))
                first = first_letter(dropped(weave, XY, starts))
                right = {None: 0, False: 1}.get(first) if first in (None, False) else starts[letters_by_hand(XY).index(first)]
                self.assertEqual(value(leading(many), XY, starts, weave), right)
            starts = tuple(random.randrange(2) for _ in range(4))
            bare = dropped(weave, XY, starts)
            _, well, _, scattered = kind_by_hand(bare)
            right = 0 if length(XY, bare) == 0 else 1 if well else 2 if scattered else 3
            self.assertEqual(value(ordering(), XY, starts, weave), right)

    def test_words_by_hand(self):
        for weave, tally, lead, order in (
            (NONE, 0, 0, 0), (X, 1, 2, 1), (then(X, Y, X), 3, 2, 1), (then(Y, X), 2, 3, 1), (on(X), 5, 2, 1), (back(Y), 5, 1, 2),
            (mix(X, Y), 5, 1, 3), (then(on(A), X), 1, 2, 1), (mix(A), 0, 0, 0), (on(back(X)), 5, 1, 2), (then(Y, mix(X)), 5, 3, 3),
            (mix(A, X), 5, 1, 3), (back(then(A, A)), 0, 0, 0), (then(back(A), Y, mix(A)), 1, 3, 1),
        ):
            self.assertEqual(value(tallying(5), XY, (0, 1, 1, 1), weave), tally)
            self.assertEqual(value(leading(2), XY, (0, 2, 3, 2), weave), lead)
            self.assertEqual(value(ordering(), XY, (0, 1, 1, 1), weave), order)
