"""[10], [11]: tables, algebras, values."""

from itertools import product
from random import Random
from unittest import TestCase

from alongall.algebras import is_algebra, is_table, value
from alongall.errors import BadScope, BadStarts, BadTable, BadWeave
from alongall.weaves import length
from tests.odd import odd_values, spoiled
from tests.oracles import rows_broken
from tests.samples import (
    A, ALGEBRAS, NONE, SMALL_ALGEBRAS, THREES, X, Y, back, borne, flipped_by_hand, led, letters_by_hand, many_weaves, mix,
    on, ordered, parts_by_hand, table_by, tallied, then, turned_by_hand,
)

XY = ("x", "y")
# For each row of [10] a table that keeps all the others.
BREAKS_ONE = (
    ("algebra", 2, ((0, 1), (1, 1)), (0, 1), (0, 1), (0, 1, 1, 1)),
    ("algebra", 4, ((0, 1, 2, 3), (1, 1, 1, 1), (2, 2, 2, 2), (3, 1, 3, 3)), (0, 1, 2, 3), (0, 1, 1, 1),
     (0, 0) + (1,) * 14),
    ("algebra", 3, ((0, 1, 2), (1, 1, 1), (2, 2, 2)), (0, 1, 1), (0, 1, 1), (0, 0, 1, 1, 1, 1, 1, 1)),
    ("algebra", 4, ((0, 1, 2, 3), (1, 2, 2, 3), (2, 2, 2, 3), (3, 3, 3, 3)), (0, 3, 2, 3), (0, 2, 2, 3),
     (0, 0) + (3,) * 14),
    ("algebra", 2, ((0, 1), (1, 1)), (0, 1), (0, 1), (0, 0, 0, 0)),
    ("algebra", 4, ((0, 1, 2, 3), (1, 1, 2, 3), (2, 2, 2, 3), (3, 3, 3, 3)), (0, 1, 2, 3), (0, 2, 2, 3),
     (0, 0, 2, 2) + (3,) * 12),
)
ONE = ("algebra", 1, ((0,),), (0,), (0,), (0, 0))


def changed(random, table):
    """A table that is unlike at a few places."""
    _, many, then_, on_, back_, mix_ = table
    then_ = [list(row) for row in then_]
    rows = [list(on_), list(back_), list(mix_)]
    for _ in range(random.randrange(1, 4)):
        if random.randrange(2):
            random.choice(then_)[random.randrange(many)] = random.randrange(many)
        else:
            row = random.choice(rows)
            row[random.randrange(1, len(row))] = random.randrange(many)
    return ("algebra", many, tuple(map(tuple, then_)), tuple(rows[0]), tuple(rows[1]), tuple(rows[2]))


class Tables(TestCase):
    def test_tables(self):
        for table in ALGEBRAS + THREES + BREAKS_ONE + (ONE,):
            self.assertIs(is_table(table), True)

    def test_one_to_eight(self):
        for many in range(1, 9):
            self.assertTrue(is_table(table_by(many, max, lambda a: a, lambda a: a, max)))
        self.assertFalse(is_table(table_by(9, max, lambda a: a, lambda a: a, max)))
        self.assertFalse(is_table(("algebra", 0, (), (), (), (0,))))
        self.assertFalse(is_table(("algebra", True, ((0,),), (0,), (0,), (0, 0))))

    def test_wrong_parts(self):
        right = tallied(1)
        self.assertEqual(right, ("algebra", 2, ((0, 1), (1, 1)), (0, 1), (0, 1), (0, 0, 1, 1)))
        wrong = (
            (0, "Algebra"), (0, "table"), (1, 1), (1, 3), (1, "2"), (2, ((0, 1),)), (2, ((0, 1), (1, 2))),
            (2, ((0, 1), (1,))), (2, ((0, 1), (1, 1), (0, 1))), (2, ((0, 1), (1, 1, 1))), (2, ((0, 1), [1, 1])),
            (3, (0,)), (3, (0, 1, 1)), (3, (0, 2)), (3, (0, -1)), (3, (0, True)), (4, (False, 1)), (4, [0, 1]), (4, (0, 2)),
            (4, (1,)), (5, (0, 0, 1)), (5, (0, 0, 1, 1, 1)), (5, (1, 0, 1, 1)), (5, (0, 0, 1, 2)), (5, (0, 0, 1, 1.0)),
            (5, (False, 0, 1, 1)), (5, (0, 0, 1)), (5, (0,) * 8),
        )
        for at, part in wrong:
            thing = right[:at] + (part,) + right[at + 1:]
            self.assertIs(is_table(thing), False, thing)
            self.assertIs(is_algebra(thing), False, thing)
        self.assertIs(is_table(right[:5]), False)
        self.assertIs(is_table(right + (0,)), False)

    def test_any_value(self):
        for thing in odd_values() + list(spoiled(tallied(1))) + list(spoiled(led(1))):
            self.assertIs(is_table(thing), False)
            self.assertIs(is_algebra(thing), False)


class Algebras(TestCase):
    def test_algebras(self):
        for table in ALGEBRAS + THREES + (ONE,):
            self.assertIs(is_algebra(table), True)

    def test_tables_that_break_one_row(self):
        for row, table in enumerate(BREAKS_ONE):
            self.assertEqual(rows_broken(table), {row})
            self.assertIs(is_table(table), True)
            self.assertIs(is_algebra(table), False, row)
            self.assertIs(is_algebra(flipped_by_hand(table)), False, row)

    def test_mixes_of_what_holds_a_mix(self):
        # Words by their ends: 1 one place, 2 no ends, 3 a first place alone, 4 a last one alone, 5 both; 6 takes all in.
        ends = {1: (1, 1), 2: (0, 0), 3: (1, 0), 4: (0, 1), 5: (1, 1)}
        kinds = {(0, 0): 2, (1, 0): 3, (0, 1): 4, (1, 1): 5}

        def joined(a, b):
            if 6 in (a, b):
                return 6
            return kinds[(ends[a][0], ends[b][1])] if a and b else a or b

        def mixed(lot, odd):
            some = {a for a in lot if a}
            return 0 if not some else 6 if 6 in some or some == odd else 2
        for odd in (set(), {2}, {3}, {4}, {5}):
            table = table_by(
                7, joined, lambda a: (0, 3, 2, 3, 2, 3, 6)[a], lambda a: (0, 4, 2, 2, 4, 4, 6)[a], lambda lot: mixed(lot, odd))
            self.assertEqual(rows_broken(table), {5} if odd else set())
            self.assertIs(is_algebra(table), not odd)

    def test_all_tables_of_two(self):
        found = []
        for told in product(range(2), repeat=11):
            table = ("algebra", 2, (told[0:2], told[2:4]), told[4:6], told[6:8], (0,) + told[8:11])
            self.assertEqual(is_algebra(table), not rows_broken(table))
            if is_algebra(table):
                found.append(table)
        self.assertEqual(found, [tallied(1)])

    def test_changed_tables(self):
        random = Random(10)
        for table in SMALL_ALGEBRAS + THREES:
            for _ in range(60):
                other = changed(random, table)
                self.assertEqual(is_algebra(other), not rows_broken(other), other)

    def test_large_changed_tables(self):
        random = Random(11)
        for table in (tallied(7), borne(3), led(6)):
            for at in (2, 3, 4, 5):
                for _ in range(3):
                    other = changed(random, table)
                    self.assertEqual(is_algebra(other), not rows_broken(other), (at, other))


class Values(TestCase):
    def test_each_kind(self):
        table = tallied(2)
        self.assertEqual(value(table, (), (1,), NONE), 0)
        self.assertEqual(value(table, (), (1,), A), 1)
        self.assertEqual(value(table, (), (1,), then(A, A)), 2)
        self.assertEqual(value(table, (), (1,), on(A)), 2)
        self.assertEqual(value(table, (), (0,), on(A)), 0)
        self.assertEqual(value(table, ("x",), (0, 1), then(A, X, A)), 1)
        self.assertEqual(value(led(2), ("x",), (2, 3), then(X, A)), 3)
        self.assertEqual(value(led(2), ("x",), (2, 3), back(X)), 1)
        self.assertEqual(value(led(2), ("x",), (2, 3), on(X)), 3)
        self.assertEqual(value(borne(2), XY, (0, 1, 2, 3), mix(A, X)), 1)
        self.assertEqual(value(borne(2), XY, (0, 1, 2, 3), mix(Y, X)), 3)

    def test_starts_by_number_of_letters(self):
        table = tallied(7)
        for number, letter in enumerate(letters_by_hand(("a", "b", "c"))):
            self.assertEqual(value(table, ("a", "b", "c"), tuple(range(8)), ("letter", letter)), number)

    def test_tables_that_are_no_algebras(self):
        table = ("algebra", 3, ((1, 2, 0), (0, 0, 2), (2, 1, 1)), (2, 1, 0), (1, 1, 2), (0, 2, 1, 0, 1, 2, 0, 1))
        self.assertEqual(value(table, (), (1,), then(NONE, A)), 2)
        self.assertEqual(value(table, (), (1,), then(A, NONE)), 0)
        self.assertEqual(value(table, (), (2,), on(A)), 0)
        self.assertEqual(value(table, (), (0,), back(A)), 1)
        self.assertEqual(value(table, ("x",), (1, 2), mix(A, X)), 0)
        self.assertEqual(value(table, ("x",), (1, 1), mix(A, X)), 1)
        self.assertEqual(value(table, ("x",), (1, 2), mix(NONE, A, X)), 1)

    def test_sums_of_starts(self):
        # HEART (families) of tallying and bearing.
        for weave in many_weaves(6, XY, 5, 200):
            starts = (0, 1, 2, 1)
            found = [starts[letters_by_hand(XY).index(letter)] for letter in all_letters(weave)]
            if length(XY, weave) is not None:
                self.assertEqual(value(tallied(7), XY, starts, weave), min(7, sum(found)))
            union = 0
            for start in found:
                union = union | start
            self.assertEqual(value(borne(2), XY, starts, weave), union)

    def test_same_words_have_the_same_value(self):
        # HEART (values), for each row of [7].
        random = Random(7)
        for table in ALGEBRAS + THREES:
            for e, f, g in [many_weaves(random.randrange(10 ** 6), XY, 3, 3) for _ in range(6)]:
                starts = tuple(random.randrange(table[1]) for _ in range(4))
                m, c = mix(e, f), e
                for one, other in (
                    (then(NONE, e), e), (then(e, NONE), e), (on(NONE), NONE), (mix(NONE), NONE), (mix(NONE, e), mix(e)),
                    (then(then(e, f), g), then(e, f, g)), (on(e), then(e, on(e))), (back(e), then(back(e), e)),
                    (on(then(e, f)), then(e, on(then(f, e)))), (back(then(e, f)), then(back(then(f, e)), f)),
                    (on(e), on(then(e, e, e))), (back(e), back(then(e, e))), (m, then(m, m)), (m, then(m, c, m)),
                    (m, on(m)), (m, on(then(m, c))), (m, back(m)), (m, back(then(c, m))), (m, mix(m)), (m, mix(m, f)),
                    (m, mix(then(c, m), then(m, f))), (m, mix(then(c, then(m, f)), e)),
                ):
                    self.assertEqual(value(table, XY, starts, one), value(table, XY, starts, other), (table, one, other))

    def test_flipped(self):
        for table in ALGEBRAS + THREES:
            for weave in many_weaves(8, XY, 5, 10):
                starts = tuple(k % table[1] for k in (1, 2, 3, 5))
                told = value(flipped_by_hand(table), XY, starts, weave)
                self.assertEqual(told, value(table, XY, starts, turned_by_hand(weave)))

    def test_errors_in_order(self):
        table = tallied(2)
        bad_starts = (
            (), (1, 1), [1], (3,), (-1,), (True,), (None,), 1, None, ((1,),), (1.0,), "1", ("1",), b"\x01",
        )
        for starts in bad_starts:
            self.assertRaises(BadStarts, value, table, (), starts, None)
        for bad in odd_values():
            self.assertRaises(BadTable, value, bad, None, None, None)
            self.assertRaises(BadScope, value, table, bad, None, None)
            self.assertRaises(BadStarts, value, table, (), bad, None)
            self.assertRaises(BadWeave, value, table, (), (1,), bad)
        self.assertRaises(BadStarts, value, table, ("x",), (1,), A)
        self.assertRaises(BadStarts, value, table, XY, (0, 1, 2), A)
        self.assertRaises(BadWeave, value, table, (), (1,), X)
        self.assertRaises(BadScope, value, table, ("y", "x"), (1,), X)

    def test_by_name(self):
        self.assertEqual(value(table=tallied(1), scope=(), starts=(1,), weave=A), 1)

    def test_example_by_hand(self):
        # [18]
        table = ("algebra", 3, ((0, 1, 2), (1, 2, 2), (2, 2, 2)), (0, 2, 2), (0, 2, 2), (0, 0, 2, 2, 2, 2, 2, 2))
        self.assertEqual(tallied(2), table)
        self.assertTrue(is_algebra(table))
        self.assertEqual(value(table, (), (1,), ("on", ("letter", ()))), 2)
        flawed = tallied(1)[:3] + ((0, 0),) + tallied(1)[4:]
        self.assertFalse(is_algebra(flawed))
        self.assertEqual(value(flawed, ("x", "y", "z"), (1,) + (0,) * 7, on(A)), 0)
        self.assertEqual(value(flawed, ("x", "y", "z"), (0, 1) + (0,) * 6, then(X, on(X))), 1)


def all_letters(weave):
    """The letters of its places, those of endless many at least once."""
    if weave[0] == "letter":
        return [weave[1]]
    return [letter for part in parts_by_hand(weave) for letter in all_letters(part)]


class Ordering(TestCase):
    def test_ordering(self):
        told = ((NONE, 0), (A, 1), (on(A), 1), (then(on(A), A), 1), (back(A), 2), (on(back(A)), 2), (mix(A), 3), (mix(NONE), 0))
        for weave, kind in told:
            self.assertEqual(value(ordered(), (), (1,), weave), kind)
