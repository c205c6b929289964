"""[12]: flaws of tables."""

from itertools import product
from random import Random
from unittest import TestCase

from alongall.algebras import is_algebra, value
from alongall.errors import BadTable
from alongall.flaws import flaw, is_flaw
from alongall.steps import is_rule
from tests.odd import odd_values, spoiled
from tests.oracles import rows_broken
from tests.samples import A, ALGEBRAS, NONE, THREES, X, Y, back, flipped_by_hand, letters_by_hand, mix, on, tallied, then
from tests.test_algebras import BREAKS_ONE

XYZ = ("x", "y", "z")
XY = ("letter", ("x", "y"))
SEATS = tuple(("letter", letter) for letter in letters_by_hand(XYZ))


def changed(table, where, what):
    """The table with one number changed."""
    part, path = where[0], where[1:]
    rows = table[part]
    if len(path) == 1:
        rows = rows[:path[0]] + (what,) + rows[path[0] + 1:]
    else:
        row = rows[path[0]]
        rows = rows[:path[0]] + (row[:path[1]] + (what,) + row[path[1] + 1:],) + rows[path[0] + 1:]
    return table[:part] + (rows,) + table[part + 1:]


def spoiled_tables(seed, many):
    """Tables that are an algebra but for one or two numbers; some may still be one."""
    random = Random(seed)
    found = []
    for _ in range(many):
        table = random.choice(ALGEBRAS + THREES)
        for _ in range(random.randrange(1, 3)):
            size = table[1]
            where = random.choice((
                (2, random.randrange(size), random.randrange(size)), (3, random.randrange(size)), (4, random.randrange(size)),
                (5, random.randrange(1, 1 << size))))
            table = changed(table, where, random.randrange(size))
        found.append(table)
    return found


def starts_of(table):
    return tuple(number if number < table[1] else 0 for number in range(8))


def seats_spoken_of(weave):
    if weave[0] == "letter":
        return {SEATS.index(weave)}
    if weave[0] == "none":
        return set()
    return set().union(*[seats_spoken_of(part) for part in (weave[1] if weave[0] == "mix" else weave[1:])])


class Flaw(TestCase):
    def check(self, table):
        found = flaw(table)
        self.assertEqual(found is None, is_algebra(table), table)
        if found is None:
            return
        one, other = found
        self.assertTrue(is_rule(XYZ, one, other), (table, found))
        starts = starts_of(table)
        self.assertNotEqual(value(table, XYZ, starts, one), value(table, XYZ, starts, other))
        self.assertTrue(all(seat < table[1] for seat in seats_spoken_of(one) | seats_spoken_of(other)))
        self.assertIs(is_flaw(table, found), True)
        self.assertIs(is_flaw(table, (other, one)), True)

    def test_algebras(self):
        for table in ALGEBRAS + THREES:
            self.assertIsNone(flaw(table))

    def test_each_row_alone(self):
        for row, table in enumerate(BREAKS_ONE):
            self.assertEqual(rows_broken(table), {row})
            self.check(table)
            self.check(flipped_by_hand(table))

    def test_nothing_in_a_mix(self):
        # Just that mix(P and 0) is mix(P) is broken, for P of one element.
        table = ("algebra", 3, ((0, 1, 2), (1, 1, 2), (2, 2, 2)), (0, 1, 2), (0, 1, 2), (0, 0, 1, 2, 2, 2, 2, 2))
        self.assertEqual(rows_broken(table), {0})
        self.check(table)
        self.assertIs(is_flaw(table, (mix(NONE, X), mix(X))), True)
        self.assertIs(is_flaw(table, (mix(NONE, Y), mix(Y))), False)

    def test_spoiled_algebras(self):
        rows = set()
        for table in spoiled_tables(510, 250):
            broken = rows_broken(table) if table[1] < 6 else set()
            if len(broken) == 1:
                rows |= broken
            self.check(table)
        self.assertGreater(len(rows), 1)

    def test_one_to_eight(self):
        random = Random(511)
        for many in range(1, 9):
            for _ in range(12):
                numbers = range(many)
                table = (
                    "algebra", many, tuple(tuple(random.choice(numbers) for _ in numbers) for _ in numbers),
                    tuple(random.choice(numbers) for _ in numbers), tuple(random.choice(numbers) for _ in numbers),
                    (0,) + tuple(random.choice(numbers) for _ in range(2 ** many - 1)))
                self.check(table)

    def test_every_table_of_two(self):
        many = 0
        for then_, on_, back_, mix_ in product(product((0, 1), repeat=4), product((0, 1), repeat=2), product((0, 1), repeat=2), product((0, 1), repeat=3)):
            table = ("algebra", 2, (then_[:2], then_[2:]), on_, back_, (0,) + mix_)
            self.check(table)
            many += is_algebra(table)
        self.assertGreater(many, 0)

    def test_example_by_hand(self):
        # [18]
        table = tallied(1)
        bad = table[:3] + ((0, 0),) + table[4:]
        self.check(bad)
        self.assertTrue(is_flaw(bad, (on(X), then(X, on(X)))))
        self.assertTrue(is_flaw(bad, (then(X, on(X)), on(X))))

    def test_errors(self):
        for bad in odd_values() + list(spoiled(tallied(1)))[:60]:
            self.assertRaises(BadTable, flaw, bad)
            self.assertRaises(BadTable, is_flaw, bad, None)


class IsFlaw(TestCase):
    def test_rules_with_like_values(self):
        table = tallied(1)
        bad = table[:3] + ((0, 0),) + table[4:]
        for one, other in ((then(NONE, X), X), (mix(NONE), NONE), (back(X), then(back(X), X)), (on(A), then(A, on(A)))):
            self.assertTrue(is_rule(XYZ, one, other))
            self.assertIs(is_flaw(bad, (one, other)), False)
        for pair in ((on(X), then(X, on(X))), (X, then(X, NONE))):
            self.assertIs(is_flaw(table, pair), False)

    def test_no_rules(self):
        bad = tallied(1)[:3] + ((0, 0),) + tallied(1)[4:]
        for one, other in ((X, A), (on(X), X), (on(X), back(X)), (on(X), then(on(X), X)), (NONE, X)):
            self.assertNotEqual(value(bad, XYZ, starts_of(bad), one), value(bad, XYZ, starts_of(bad), other))
            self.assertIs(is_flaw(bad, (one, other)), False)

    def test_one_seat_too_many(self):
        # on is spoiled everywhere but for 0, and each seat is a letter of its own.
        for many in range(1, 8):
            table = tallied(many) if many < 8 else None
            size = table[1]
            bad = table[:3] + ((0,) * size,) + table[4:]
            for seat in range(8):
                pair = (on(SEATS[seat]), then(SEATS[seat], on(SEATS[seat])))
                self.assertIs(is_flaw(bad, pair), 0 < seat < size, (many, seat))
        # With two elements y is beyond, in whatever part.
        bad = tallied(1)[:3] + ((0, 0),) + tallied(1)[4:]
        self.assertTrue(is_flaw(bad, (on(then(X, A)), then(X, on(then(A, X))))))
        self.assertFalse(is_flaw(bad, (on(then(X, Y)), then(X, on(then(Y, X))))))
        self.assertFalse(is_flaw(bad, (on(then(X, XY)), then(X, on(then(XY, X))))))

    def test_start_of_each_seat(self):
        # then of two is wrong for 4 and 6 alone.
        table = tallied(7)
        bad = changed(table, (2, 4, 6), 5)
        pair = (then(then(SEATS[4], SEATS[6]), NONE), then(SEATS[4], then(SEATS[6], NONE)))
        self.assertFalse(is_flaw(bad, pair))
        pair = (("then", then(SEATS[2], SEATS[2]), SEATS[6]), then(SEATS[2], then(SEATS[2], SEATS[6])))
        self.assertTrue(is_flaw(bad, pair))
        pair = (("then", then(SEATS[2], SEATS[1]), SEATS[6]), then(SEATS[2], then(SEATS[1], SEATS[6])))
        self.assertFalse(is_flaw(bad, pair))

    def test_any_value(self):
        bad = tallied(1)[:3] + ((0, 0),) + tallied(1)[4:]
        pair = (on(X), then(X, on(X)))
        for thing in odd_values() + list(spoiled(pair)) + [pair + (X,), pair[:1], list(pair), (on(X), None), (None, on(X))]:
            self.assertIs(is_flaw(bad, thing), False)
            self.assertIs(is_flaw(tallied(2), thing), False)
        self.assertIs(is_flaw(table=bad, thing=pair), True)
