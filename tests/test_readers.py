"""[30], [31]: readers, and what they take."""

from random import Random
from unittest import TestCase

from alongall.algebras import value
from alongall.combining import joining, meeting
from alongall.errors import BadReader, BadWeave, OtherScope
from alongall.readers import is_reader, takes
from tests.odd import odd_values, spoiled
from tests.samples import (
    A, ALGEBRAS, NONE, THREES, X, Y, back, borne, led, many_weaves, mix, on, ordered, tallied, then,
)
from tests.test_algebras import BREAKS_ONE

XY = ("x", "y")
ONE_X = ("reader", ("x",), tallied(2), (0, 1), (1,))


def many_readers(seed, many, scopes=((), ("x",), ("x", "y")), algebras=ALGEBRAS[:2] + ALGEBRAS[4:5] + ALGEBRAS[7:9] + THREES):
    """Some readers of small algebras, the same ones each time."""
    random = Random(seed)
    found = []
    for _ in range(many):
        scope, algebra = random.choice(scopes), random.choice(algebras)
        starts = tuple(random.randrange(algebra[1]) for _ in range(1 << len(scope)))
        taken = tuple(a for a in range(algebra[1]) if random.randrange(2))
        found.append(("reader", scope, algebra, starts, taken))
    return found


class IsReader(TestCase):
    def test_readers(self):
        for reader in [ONE_X] + many_readers(1, 100):
            self.assertIs(is_reader(reader), True)
        self.assertIs(is_reader(("reader", (), tallied(1), (1,), ())), True)
        self.assertIs(is_reader(("reader", (), tallied(1), (1,), (0, 1))), True)
        self.assertIs(is_reader(("reader", ("a", "b", "c"), borne(3), tuple(range(8)), (7,))), True)

    def test_one_part_odd(self):
        for at, part in (
            (0, "Reader"), (0, "algebra"), (0, None), (1, ()), (1, ("y", "z")), (1, ("all",)), (1, ["x"]), (1, "x"),
            (2, BREAKS_ONE[0]), (2, tallied(0)), (2, list(tallied(2))), (2, None), (3, (0,)), (3, (0, 1, 1)), (3, [0, 1]),
            (3, (0, 3)), (3, (0, -1)), (3, (0, True)), (3, (False, 1)), (3, (0, None)), (3, 0), (4, (3,)), (4, (1, 0)),
            (4, (1, 1)), (4, [1]), (4, 1), (4, (True,)), (4, (-1,)), (4, (1.0,)), (4, None), (4, (0, 1, 2, 3)), (4, ((1,),)),
        ):
            thing = ONE_X[:at] + (part,) + ONE_X[at + 1:]
            if at == 2 and part == tallied(0):
                self.assertEqual(part[1], 1)
            self.assertIs(is_reader(thing), False, (at, part))
            self.assertRaises(BadReader, takes, thing, None)
        for table in BREAKS_ONE:
            self.assertIs(is_reader(("reader", (), table, (0,), ())), False)

    def test_any_value(self):
        for thing in odd_values() + list(spoiled(ONE_X)) + [ONE_X[:4], ONE_X + ((),), list(ONE_X), ()]:
            self.assertIs(is_reader(thing), False)
            self.assertRaises(BadReader, takes, thing, None)


class Takes(TestCase):
    def test_one_x(self):
        for weave, right in (
            (NONE, False), (A, False), (X, True), (then(A, X, A), True), (then(X, X), False), (on(X), False), (on(A), False),
            (then(on(A), X, back(A)), True), (then(mix(A), then(X, mix(A))), True), (mix(A, X), False), (back(X), False),
            (then(X, on(NONE)), True),
        ):
            self.assertIs(takes(ONE_X, weave), right, weave)

    def test_words_of_every_kind(self):
        for reader in many_readers(2, 60):
            _, scope, algebra, starts, taken = reader
            for weave in many_weaves(len(taken), scope, 4, 8) + [NONE, on(A), back(A), mix(A)]:
                self.assertIs(takes(reader, weave), value(algebra, scope, starts, weave) in taken)

    def test_well_ordered(self):
        reader = ("reader", (), ordered(), (1,), (0, 1))
        for weave, right in ((NONE, True), (on(on(A)), True), (back(A), False), (mix(A), False), (then(on(A), A), True)):
            self.assertIs(takes(reader, weave), right)

    def test_nothing_and_all(self):
        for weave in (NONE, A, on(A), back(A), mix(A)):
            self.assertIs(takes(("reader", (), tallied(1), (1,), ()), weave), False)
            self.assertIs(takes(("reader", (), tallied(1), (1,), (0, 1)), weave), True)

    def test_errors(self):
        for bad in odd_values():
            self.assertRaises(BadReader, takes, bad, None)
            self.assertRaises(BadWeave, takes, ONE_X, bad)
        self.assertRaises(BadWeave, takes, ONE_X, Y)
        self.assertRaises(BadWeave, takes, ONE_X, ("mix", (NONE, A)))
        self.assertTrue(takes(reader=ONE_X, weave=X))

    def test_other_scope(self):
        reader = ("reader", ("y",), tallied(2), (0, 1), (1,))
        small = ("reader", (), tallied(1), (1,), (1,))
        for ask in (meeting, joining):
            self.assertRaises(OtherScope, ask, ONE_X, reader)
            self.assertRaises(OtherScope, ask, small, reader)
            for bad in odd_values() + [ONE_X[:4]]:
                self.assertRaises(BadReader, ask, bad, reader)
                self.assertRaises(BadReader, ask, ONE_X, bad)
                self.assertRaises(BadReader, ask, bad, None)

    def test_first_of_starts(self):
        reader = ("reader", XY, led(2), (0, 2, 3, 2), (2,))
        self.assertIs(takes(reader, then(A, X, Y)), True)
        self.assertIs(takes(reader, then(Y, X)), False)
        self.assertIs(takes(reader, on(("letter", XY))), True)
        self.assertIs(takes(reader, back(X)), False)
