"""[74], [75], [76]: repeats, lengths, powers."""

from itertools import product
from unittest import TestCase

from alongall.algebras import value
from alongall.errors import BadReader, BadWeave
from alongall.lengths import lengths, powers, powers_back, repeats, sure_lengths
from alongall.readers import takes
from alongall.weaves import written
from tests.odd import odd_values
from tests.oracles import lots_of_numbers
from tests.samples import (
    A, ALGEBRAS, NONE, THREES, X, back, borne, led, letters_by_hand, many_weaves, mix, on, ordered, table_by, tallied, then,
)
from tests.test_making import BAD_WEAVES
from tests.test_readers import ONE_X, many_readers

READERS = many_readers(530, 60, ((), ("x",), ("x", "y"), ("a", "b", "c"))) + many_readers(531, 40, ((), ("x",)), ALGEBRAS)
NONE_AT_ALL = ("algebra", 1, ((0,),), (0,), (0,), (0, 0))


def going_round(many):
    """How many places, counted round and round from 1 to many; the last element is for endless many."""
    last = many + 1

    def joined(a, b):
        if a == 0 or b == 0:
            return a + b
        return last if last in (a, b) else (a + b - 1) % many + 1

    def endless(a):
        return last if a else 0

    return table_by(many + 2, joined, endless, endless, lambda lot: last if any(lot) else 0)


def row_told(pair, many):
    """The first truths of the row that a pair tells."""
    ahead, again = pair
    return [ahead[n] if n < len(ahead) else again[(n - len(ahead)) % len(again)] for n in range(many)]


def shortest_by_hand(row):
    """The pair with the shortest ahead, then the shortest again, for a long beginning of a row that goes round soon."""
    for ahead in range(len(row)):
        for again in range(1, 9):
            if all(row[n] == row[n + again] for n in range(ahead, len(row) - again)):
                return tuple(row[:ahead]), tuple(row[ahead:ahead + again])


class Repeats(TestCase):
    def test_examples_by_hand(self):
        # [79], then rows that are all one, that change once, that change twice.
        self.assertEqual(repeats(ONE_X, X), ((False, True), (False,)))
        self.assertEqual(repeats(ONE_X, A), ((), (False,)))
        for takes_, right in (
            ((), ((), (False,))), ((0, 1, 2), ((), (True,))), ((0,), ((True,), (False,))), ((1, 2), ((False,), (True,))),
            ((0, 2), ((True, False), (True,))), ((2,), ((False, False), (True,))), ((0, 1), ((True, True), (False,))),
        ):
            self.assertEqual(repeats(("reader", ("x",), tallied(2), (0, 1), takes_), X), right)
        self.assertEqual(repeats(("reader", (), tallied(7), (1,), (7,)), then(A, A)), ((False,) * 4, (True,)))
        self.assertEqual(repeats(("reader", (), tallied(7), (1,), (2, 6)), then(A, A)), ((False, True, False, True), (False,)))
        self.assertEqual(repeats(("reader", (), tallied(7), (1,), (7,)), on(A)), ((False,), (True,)))
        self.assertEqual(repeats(("reader", (), tallied(7), (1,), (0,)), NONE), ((), (True,)))

    def test_beside_words(self):
        for reader in READERS:
            for weave in many_weaves(532, reader[1], 3, 5):
                pair = repeats(reader, weave)
                row, word = [], NONE
                for _ in range(20):
                    row.append(takes(reader, word))
                    word = then(weave, word) if len(row) % 2 else then(word, weave)
                self.assertEqual(pair, shortest_by_hand(row))
                self.assertTrue(all(truth is True or truth is False for part in pair for truth in part))
                self.assertLessEqual(len(pair[0]) + len(pair[1]), reader[2][1])

    def test_rows_that_go_round(self):
        for many in (2, 3, 4, 6):
            for takes_ in lots_of_numbers(range(many + 2)):
                reader = ("reader", (), going_round(many), (1,), takes_)
                row = [0 in takes_] + [(1 + (n - 1) % many) in takes_ for n in range(1, 40)]
                self.assertEqual(repeats(reader, A), shortest_by_hand(row))
                self.assertEqual(lengths(reader), shortest_by_hand(row))
                self.assertEqual(sure_lengths(reader), shortest_by_hand(row))
        self.assertEqual(repeats(("reader", (), going_round(2), (1,), (1,)), A), ((), (False, True)))
        self.assertEqual(repeats(("reader", (), going_round(2), (1,), (0, 2)), A), ((), (True, False)))
        self.assertEqual(repeats(("reader", (), going_round(2), (1,), (0, 1)), A), ((True,), (True, False)))
        self.assertEqual(repeats(("reader", (), going_round(4), (1,), (2, 4)), A), ((False,), (False, True)))
        self.assertEqual(repeats(("reader", (), going_round(6), (1,), (3, 6)), then(A, A)), ((False,), (False, False, True)))

    def test_errors_in_order(self):
        for bad in odd_values() + [ONE_X[:4]]:
            self.assertRaises(BadReader, repeats, bad, None)
        for bad in odd_values() + BAD_WEAVES + [("letter", ("y",))]:
            self.assertRaises(BadWeave, repeats, ONE_X, bad)
        self.assertEqual(repeats(reader=ONE_X, weave=NONE), ((), (False,)))


class Lengths(TestCase):
    def test_examples_by_hand(self):
        self.assertEqual(lengths(ONE_X), ((False,), (True,)))
        self.assertEqual(sure_lengths(ONE_X), ((), (False,)))
        for takes_, some, sure in (
            ((), ((), (False,)), ((), (False,))), ((0, 1, 2), ((), (True,)), ((), (True,))), ((0,), ((), (True,)), ((True,), (False,))),
            ((0, 1), ((), (True,)), ((True, True), (False,))), ((2,), ((False, False), (True,)), ((), (False,))),
        ):
            reader = ("reader", ("x",), tallied(2), (0, 1), takes_)
            self.assertEqual(lengths(reader), some)
            self.assertEqual(sure_lengths(reader), sure)
        self.assertEqual(lengths(("reader", (), tallied(7), (1,), (3,))), ((False, False, False, True), (False,)))
        self.assertEqual(sure_lengths(("reader", (), tallied(7), (1,), (3, 7))), ((False,) * 3 + (True,) + (False,) * 3, (True,)))
        self.assertEqual(lengths(("reader", (), tallied(7), (3,), (3, 6))), ((False, True, True), (False,)))
        self.assertEqual(lengths(("reader", (), NONE_AT_ALL, (0,), (0,))), ((), (True,)))

    def test_beside_all_words(self):
        for reader in READERS:
            letters = letters_by_hand(reader[1])
            most = {1: 9, 2: 6, 4: 4, 8: 3}[len(letters)]
            some, sure = row_told(lengths(reader), most), row_told(sure_lengths(reader), most)
            for many in range(most):
                told = [takes(reader, written(reader[1], row)) for row in product(letters, repeat=many)]
                self.assertIs(some[many], any(told))
                self.assertIs(sure[many], all(told))

    def test_shortest(self):
        for reader in READERS:
            _, _, algebra, starts, taken = reader
            lots, rows = {0}, ([], [])
            for _ in range(60):
                rows[0].append(any(a in taken for a in lots))
                rows[1].append(all(a in taken for a in lots))
                lots = {algebra[2][a][start] for a in lots for start in starts}
            self.assertEqual(lengths(reader), shortest_by_hand(rows[0]))
            self.assertEqual(sure_lengths(reader), shortest_by_hand(rows[1]))

    def test_lots_that_go_round(self):
        # Letters that count one and two: all words of n places together, or each of them by itself.
        for starts in ((1, 3), (2, 2), (1, 1), (0, 2), (2, 4), (1, 2)):
            for takes_ in lots_of_numbers(range(1, 5)):
                reader = ("reader", ("x",), going_round(4), starts, takes_)
                lots, rows = {0}, ([], [])
                for _ in range(40):
                    rows[0].append(any(a in takes_ for a in lots))
                    rows[1].append(all(a in takes_ for a in lots))
                    lots = {reader[2][2][a][start] for a in lots for start in starts}
                self.assertEqual(lengths(reader), shortest_by_hand(rows[0]))
                self.assertEqual(sure_lengths(reader), shortest_by_hand(rows[1]))

    def test_errors(self):
        for bad in odd_values() + [ONE_X[:4]]:
            self.assertRaises(BadReader, lengths, bad)
            self.assertRaises(BadReader, sure_lengths, bad)
        self.assertEqual(lengths(reader=ONE_X), ((False,), (True,)))
        self.assertEqual(sure_lengths(reader=ONE_X), ((), (False,)))


class Powers(TestCase):
    def test_by_hand(self):
        self.assertEqual(powers(ONE_X, X), (True, False))
        self.assertEqual(powers_back(ONE_X, X), (True, False))
        self.assertEqual(powers(ONE_X, A), (False,))
        order = ("reader", (), ordered(), (1,), (1,))
        self.assertEqual(powers(order, A), (True,))
        self.assertEqual(powers_back(order, A), (True, False))
        self.assertEqual(powers(order, back(A)), (False,))
        self.assertEqual(powers(order, mix(A)), (False,))
        for takes_, right in (((2,), (False, True)), ((1, 2), (True,)), ((0, 1), (True, False)), ((0,), (False,))):
            self.assertEqual(powers(("reader", (), tallied(2), (1,), takes_), A), right)
        first = ("reader", ("x",), led(1), (1, 2), (2,))
        self.assertEqual(powers(first, X), (True,))
        self.assertEqual(powers_back(first, X), (True, False))
        self.assertEqual(powers(first, NONE), (False,))

    def test_values_that_change_twice(self):
        # One place; endless many; endless many times endless many, which has a place with endless many ahead of it.
        algebra = (
            "algebra", 4, ((0, 1, 2, 3), (1, 1, 2, 3), (2, 3, 3, 3), (3, 3, 3, 3)), (0, 2, 3, 3), (0, 3, 3, 3),
            (0, 0) + (3,) * 14)
        found = 0
        for takes_ in ((), (1,), (2,), (1, 3), (3,), (1, 2), (2, 3)):
            reader = ("reader", (), algebra, (1,), takes_)
            try:
                told = powers(reader, A)
            except BadReader:
                continue
            found += 1
            row = [1 in takes_, 2 in takes_, 3 in takes_]
            while len(row) > 1 and row[-1] == row[-2]:
                row.pop()
            self.assertEqual(told, tuple(row))
        self.assertEqual(found, 7)

    def test_beside_words(self):
        changes = set()
        for reader in READERS:
            for head, function in (("on", powers), ("back", powers_back)):
                for weave in many_weaves(533, reader[1], 3, 5):
                    told = function(reader, weave)
                    row, word = [], weave
                    for _ in range(12):
                        row.append(takes(reader, word))
                        word = (head, word)
                    self.assertEqual(row, list(told) + [told[-1]] * (12 - len(told)))
                    self.assertTrue(len(told) == 1 or told[-1] != told[-2])
                    self.assertLessEqual(len(told), reader[2][1])
                    changes.add(len(told))
        self.assertGreaterEqual(changes, {1, 2})

    def test_values_come_to_one(self):
        # HEART (powers stay), and the word of all of them behind each other.
        for algebra in ALGEBRAS + THREES:
            for start in range(algebra[1]):
                row = [start]
                for _ in range(algebra[1] + 2):
                    row.append(value(algebra, (), (row[-1],), on(A)))
                self.assertEqual(row[-1], row[-2])
                whole = row[-1]
                for worth in reversed(row):
                    whole = algebra[2][worth][whole]
                self.assertEqual(whole, row[-1])

    def test_errors_in_order(self):
        for function in (powers, powers_back):
            for bad in odd_values() + [ONE_X[:4]]:
                self.assertRaises(BadReader, function, bad, None)
            for bad in odd_values() + BAD_WEAVES:
                self.assertRaises(BadWeave, function, ONE_X, bad)
            self.assertEqual(function(reader=ONE_X, weave=X), (True, False))
        self.assertEqual(powers(("reader", ("x",), borne(1), (0, 1), (1,)), X), (True,))
