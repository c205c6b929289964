"""[73]: ties, and whether formulas are the same."""

from itertools import combinations
from random import Random
from unittest import TestCase

from alongall.changing import widened
from alongall.compiling import reader_of
from alongall.deciding import means
from alongall.errors import BadFormula, BadReader, BadScope, OtherScope, TooMany
from alongall.least import least
from alongall.readers import takes
from alongall.ties import is_sameness, is_tie, sameness, tie
from alongall.weaves import is_weave
from tests.formulas import free_by_hand, many_formulas
from tests.odd import Strange, odd_values, spoiled
from tests.oracles import lots_of_numbers, mixed_in, moved, same_words, walk_by_hand
from tests.samples import A, ALGEBRAS, NONE, THREES, X, Y, back, borne, led, mix, on, ordered, tallied, then
from tests.test_lengths import READERS
from tests.test_readers import ONE_X, many_readers


def is_tie_by_hand(one, other, pairs):
    pairs = set(pairs)
    if not pairs >= {(0, 0), *zip(one[3], other[3])}:
        return False
    tables = one[2], other[2]
    for a, b in pairs:
        if (a in one[4]) != (b in other[4]):
            return False
        for part in (3, 4):
            if (tables[0][part][a], tables[1][part][b]) not in pairs:
                return False
        if any((tables[0][2][a][c], tables[1][2][b][d]) not in pairs for c, d in pairs):
            return False
    lots = lots_of_numbers(range(len(pairs)))
    row = sorted(pairs)
    return all(
        (mixed_in(tables[0], [row[at][0] for at in lot]), mixed_in(tables[1], [row[at][1] for at in lot])) in pairs for lot in lots if lot)


def met(one, other):
    return walk_by_hand((one[2], other[2]), list(zip(one[3], other[3])))


class Tie(TestCase):
    def test_by_hand(self):
        self.assertEqual(tie(ONE_X, ONE_X), ((0, 0), (1, 1), (2, 2)))
        larger = ("reader", ("x",), tallied(3), (0, 1), (1,))
        self.assertEqual(tie(ONE_X, larger), ((0, 0), (1, 1), (2, 2), (2, 3)))
        self.assertEqual(tie(larger, ONE_X), ((0, 0), (1, 1), (2, 2), (3, 2)))
        self.assertIsNone(tie(ONE_X, ("reader", ("x",), tallied(2), (0, 1), (2,))))
        self.assertIsNone(tie(ONE_X, ("reader", ("x",), tallied(2), (0, 1), ())))
        nothing = ("reader", ("x",), ("algebra", 1, ((0,),), (0,), (0,), (0, 0)), (0, 0), ())
        self.assertEqual(tie(nothing, ("reader", ("x",), borne(1), (0, 1), ())), ((0, 0), (0, 1)))
        self.assertEqual(tie(nothing, nothing), ((0, 0),))

    def test_least_readers(self):
        for reader in READERS:
            small = least(reader)
            self.assertEqual(tie(small, small), tuple((a, a) for a in range(small[2][1])))
            self.assertIsNotNone(tie(reader, small))

    def test_pairs_met(self):
        random = Random(670)
        words = {"same": 0, "unlike": 0}
        pool = READERS + many_readers(671, 60, (("x",),), ALGEBRAS)
        for _ in range(900):
            one, other = random.choice(pool), random.choice(pool)
            if one[1] != other[1]:
                self.assertRaises(OtherScope, tie, one, other)
                continue
            if random.randrange(3) == 0:
                other = least(one)
            if one[2][1] * other[2][1] > 20 and random.randrange(4):
                continue
            pairs = small_walk(one, other)
            if len(pairs) > 12:
                with self.assertRaises(TooMany) as caught:
                    tie(one, other)
                self.assertEqual(caught.exception.most, 12)
                continue
            told = tie(one, other)
            same = all((a in one[4]) == (b in other[4]) for a, b in pairs)
            self.assertEqual(told, tuple(sorted(pairs)) if same else None)
            words["same" if same else "unlike"] += 1
            if same:
                self.assertIs(is_tie(one, other, told), True)
                self.assertTrue(is_tie_by_hand(one, other, told))
        self.assertTrue(all(many > 5 for many in words.values()), words)

    def test_moved_readers(self):
        for reader in READERS[::4]:
            many = reader[2][1]
            order = [0] + list(range(many - 1, 0, -1))
            other = moved(reader, order)
            told = tie(reader, other)
            self.assertTrue(all(order[a] == b for a, b in told))

    def test_just_twelve(self):
        # Numbers of places up to 3 and by 3, counted round: pairs of them are 12, with 0 and what is endless.
        counts = set()
        for one_most in range(1, 8):
            for other_most in range(1, 8):
                one = ("reader", ("x", "y"), tallied(one_most), (0, 1, 0, 1), ())
                other = ("reader", ("x", "y"), tallied(other_most), (0, 0, 1, 1), ())
                many = (one_most + 1) * (other_most + 1)
                if many <= 12:
                    self.assertEqual(len(tie(one, other)), many)
                else:
                    self.assertRaises(TooMany, tie, one, other)
                counts.add(many)
        self.assertGreaterEqual(counts, {12, 14})
        # Thirteen: of 15 or 14 some are not met.
        one = ("reader", ("x",), tallied(7), (1, 0), ())
        self.assertEqual(len(tie(one, one)), 8)

    def test_thirteen(self):
        found = {12: 0, 13: 0}
        for a, b, c, d in ((a, b, c, d) for a in range(4) for b in range(4) for c in range(6) for d in range(6)):
            one, other = ("reader", ("x",), tallied(3), (a, b), ()), ("reader", ("x",), tallied(5), (c, d), ())
            many = len(small_walk(one, other))
            if many in found:
                found[many] += 1
                if many == 12:
                    self.assertEqual(len(tie(one, other)), 12)
                else:
                    self.assertRaises(TooMany, tie, one, other)
        self.assertTrue(all(found.values()), found)

    def test_errors_in_order(self):
        other = ("reader", ("y",), tallied(1), (0, 1), ())
        for bad in odd_values() + [ONE_X[:4]]:
            self.assertRaises(BadReader, tie, bad, other)
            self.assertRaises(BadReader, tie, ONE_X, bad)
            self.assertRaises(BadReader, is_tie, bad, other, None)
            self.assertRaises(BadReader, is_tie, ONE_X, bad, None)
        self.assertRaises(OtherScope, tie, ONE_X, other)
        self.assertRaises(OtherScope, is_tie, ONE_X, other, (None,) * 13)
        self.assertEqual(tie(one=ONE_X, other=ONE_X), ((0, 0), (1, 1), (2, 2)))


def small_walk(one, other):
    """The pairs met, up to 13, mixes only of lots with up to as many pairs as count."""
    tables = one[2], other[2]
    found = {(0, 0), *zip(one[3], other[3])}
    while len(found) < 13:
        more = {(tables[0][2][a][c], tables[1][2][b][d]) for a, b in found for c, d in found}
        more |= {(tables[0][part][a], tables[1][part][b]) for part in (3, 4) for a, b in found}
        more |= {
            (mixed_in(tables[0], {row[at][0] for at in lot}), mixed_in(tables[1], {row[at][1] for at in lot}))
            for row in [sorted(found)] for lot in lots_of_numbers(range(len(row))) if lot}
        if more <= found:
            return found
        found |= more
    return found


class IsTie(TestCase):
    def test_each_tuple_of_pairs(self):
        right = 0
        for one, other in ((ONE_X, ONE_X), (ONE_X, ("reader", ("x",), tallied(1), (0, 1), ())), (("reader", (), ordered(), (1,), (0, 1)), ("reader", (), tallied(1), (1,), (0, 1)))):
            pairs = [(a, b) for a in range(one[2][1]) for b in range(other[2][1])]
            for many in range(len(pairs) + 1):
                for row in combinations(pairs, many):
                    told = is_tie_by_hand(one, other, row)
                    self.assertIs(is_tie(one, other, row), told, row)
                    right += told
        self.assertGreater(right, 0)

    def test_larger_ties(self):
        reader = ("reader", (), THREES[5], (0,), (0, 1, 2))
        pairs = [(a, b) for a in range(3) for b in range(3)]
        ties = [row for many in range(10) for row in combinations(pairs, many) if is_tie_by_hand(reader, reader, row)]
        self.assertGreater(len(ties), 3)
        for row in ties:
            self.assertIs(is_tie(reader, reader, row), True)
            self.assertIs(is_tie(reader, reader, row[::-1]), len(row) == 1)

    def test_one_pair_left_out(self):
        for reader in READERS[::3]:
            small = least(reader)
            told = tie(reader, small)
            for at in range(len(told)):
                self.assertIs(is_tie(reader, small, told[:at] + told[at + 1:]), False)

    def test_any_value(self):
        told = ((0, 0), (1, 1), (2, 2))
        for thing in odd_values() + list(spoiled(told)) + [(), told[::-1], told + told[-1:], list(told), told[0], (told,), ((0, 0, 0),) + told[1:]]:
            if isinstance(thing, tuple) and len(thing) > 12:
                self.assertRaises(TooMany, is_tie, ONE_X, ONE_X, thing)
            else:
                self.assertIs(is_tie(ONE_X, ONE_X, thing), False)
        for thing in ((None,) * 13, (Strange(),) * 13, tuple(range(13)), ((0, 0),) * 13):
            with self.assertRaises(TooMany) as caught:
                is_tie(ONE_X, ONE_X, thing)
            self.assertEqual(caught.exception.most, 12)
        for thing in ((None,) * 12, (Strange(),) * 12, [None] * 13, "x" * 13, ((0, 0),) * 12):
            self.assertIs(is_tie(ONE_X, ONE_X, thing), False)
        self.assertIs(is_tie(one=ONE_X, other=ONE_X, thing=told), True)


SAME = (
    (("bare_", "x"), ("ahead", "x", "x")), (("not", ("not", ("one", "x"))), ("one", "x")),
    (("both", ("one", "x"), ("sub", "x", "y")), ("both", ("sub", "x", "y"), ("one", "x"))),
    (("all", "y", ("sub", "x", "y")), ("ahead", "x", "x")), (("some", "y", ("sub", "y", "x")), ("sub", "x", "x")),
    (("sub", "x", "x"), ("sub", "y", "y")), (("all", "x", ("sub", "x", "x")), ("sub", "z", "z")),
)[1:]
UNLIKE = (
    (("one", "x"), ("one", "y")), (("sub", "x", "y"), ("sub", "y", "x")), (("sub", "x", "y"), ("ahead", "x", "y")), (("one", "x"), ("ahead", "x", "x")),
    (("some", "x", ("one", "x")), ("sub", "y", "y")),
)


class Sameness(TestCase):
    def check(self, one, other):
        told = sameness(one, other)
        self.assertIs(is_sameness(one, other, told), True)
        scope = tuple(sorted(free_by_hand(one) | free_by_hand(other)))
        first, second = widened(reader_of(one), scope), widened(reader_of(other), scope)
        if same_words(first, second):
            self.assertEqual(told, ("same", tie(first, second)))
        else:
            word, weave = told
            self.assertEqual(word, "parted")
            self.assertTrue(is_weave(scope, weave))
            self.assertNotEqual(takes(first, weave), takes(second, weave))
            self.assertNotEqual(means(one, scope, weave), means(other, scope, weave))
        return told

    def test_by_hand(self):
        for one, other in SAME:
            self.assertEqual(self.check(one, other)[0], "same")
            self.assertEqual(self.check(other, one)[0], "same")
        for one, other in UNLIKE:
            self.assertEqual(self.check(one, other)[0], "parted")
            self.assertEqual(self.check(other, one)[0], "parted")
        self.assertEqual(sameness(("sub", "x", "x"), ("sub", "y", "y")), ("same", ((0, 0),)))
        self.assertEqual(sameness(("one", "x"), ("one", "x")), ("same", ((0, 0), (1, 1), (2, 2))))

    def test_any_formulas(self):
        random = Random(672)
        formulas = many_formulas(673, ("x", "y"), 3, 60, False)
        told = {"same": 0, "parted": 0}
        for _ in range(150):
            one, other = random.choice(formulas), random.choice(formulas)
            try:
                told[self.check(one, other)[0]] += 1
            except TooMany as wrong:
                self.assertIn(wrong.most, (8, 10, 12, 14))
        self.assertGreater(min(told.values()), 4)

    def test_more_than_twelve_pairs(self):
        # Counted x beside counted y with a place ahead: least readers whose pairs are more than 12.
        seen = set()
        formulas = many_formulas(674, ("x", "y", "z"), 3, 60, False)
        for one in formulas[::3]:
            for other in formulas[1::4]:
                scope = tuple(sorted(free_by_hand(one) | free_by_hand(other)))
                try:
                    first, second = widened(reader_of(one), scope), widened(reader_of(other), scope)
                except TooMany:
                    continue
                many = len(small_walk(first, second))
                seen.add(many)
                if many > 12:
                    with self.assertRaises(TooMany) as caught:
                        sameness(one, other)
                    self.assertEqual(caught.exception.most, 12)
                    # is_sameness still tells.
                    self.assertIs(is_sameness(one, other, ("parted", NONE)), takes(first, NONE) != takes(second, NONE))
                else:
                    self.assertIn(sameness(one, other)[0], ("same", "parted"))
        self.assertGreater(max(seen), 12)

    def test_either_word_for_either_case(self):
        for one, other in SAME:
            told = sameness(one, other)[1]
            self.assertIs(is_sameness(one, other, ("parted", told)), False)
            for weave in (NONE, A, on(A), back(A), mix(A)):
                self.assertIs(is_sameness(one, other, ("parted", weave)), False)
                self.assertIs(is_sameness(one, other, ("same", weave)), False)
            with self.assertRaises(TooMany) as caught:
                is_sameness(one, other, ("same", (None,) * 13))
            self.assertEqual(caught.exception.most, 12)
        one, other = ("one", "x"), ("ahead", "x", "x")
        for weave, right in ((NONE, True), (X, True), (A, True), (then(X, X), False), (Y, False), (on(X), False)):
            self.assertIs(is_sameness(one, other, ("parted", weave)), right)
        for thing in (((0, 0),), (), ((0, 0), (1, 1))):
            self.assertIs(is_sameness(one, other, ("same", thing)), False)

    def test_any_value(self):
        pair = ("one", "x"), ("not", ("not", ("one", "x")))
        right = sameness(*pair)
        parted = ("parted", then(A, X))
        for thing in odd_values() + list(spoiled(right)) + [right + ((),), right[:1], list(right), right[1], ("Same", right[1]), ("parted", right[1])]:
            self.assertIs(is_sameness(*pair, thing), False)
        for thing in odd_values() + list(spoiled(parted)) + [parted[:1], list(parted), ("parted", Strange()), ("same", Strange()), ("same", [None] * 13)]:
            self.assertIs(is_sameness(("one", "x"), ("ahead", "x", "x"), thing), False)
        self.assertIs(is_sameness(one=pair[0], other=pair[1], thing=right), True)

    def test_errors_in_order(self):
        big = ("some", "p", ("some", "q", ("both", ("sub", "p", "x"), ("both", ("sub", "q", "y"), ("ahead", "p", "q")))))
        wide = ("both", ("sub", "x", "y"), ("sub", "z", "z"))
        for bad in odd_values() + [("well", "x"), ("not", ("bare", "x")), ("one", "all"), ("some", "x", ("next", "x", "y"))]:
            self.assertRaises(BadFormula, sameness, bad, None)
            self.assertRaises(BadFormula, sameness, wide, bad)
            self.assertRaises(BadFormula, is_sameness, bad, None, None)
            self.assertRaises(BadFormula, is_sameness, wide, bad, None)
        for function in (sameness, lambda one, other: is_sameness(one, other, ("same", (None,) * 13))):
            self.assertRaises(BadScope, function, wide, ("one", "w"))
            self.assertRaises(BadScope, function, wide, ("sub", "v", "w"))
        many = ("both", ("one", "x"), ("both", ("one", "y"), ("one", "z")))
        with self.assertRaises(TooMany) as caught:
            sameness(many, many)
        with self.assertRaises(TooMany) as caught_too:
            is_sameness(many, many, ("same", (None,) * 13))
        with self.assertRaises(TooMany) as right:
            reader_of(many)
        self.assertEqual((caught.exception.most, caught_too.exception.most), (right.exception.most,) * 2)
        self.assertEqual(free_by_hand(big), {"x", "y"})
        self.assertEqual(led(1)[1], 3)
