"""[70]: papers of readers."""

from unittest import TestCase

from alongall.errors import BadReader
from alongall.papers import is_paper, paper_of
from alongall.readers import takes
from tests.odd import Strange, odd_values, spoiled
from tests.oracles import lots_of_numbers, mixed_in, walk_by_hand
from tests.samples import A, ALGEBRAS, NONE, X, Y, back, led, many_weaves, mix, on, ordered, tallied, then
from tests.test_lengths import READERS
from tests.test_readers import ONE_X


def is_closed_by_hand(reader, lot):
    _, _, algebra, starts, _ = reader
    lot = set(lot)
    if not lot >= {0, *starts}:
        return False
    made = {algebra[2][a][b] for a in lot for b in lot} | {algebra[3][a] for a in lot} | {algebra[4][a] for a in lot}
    return lot >= made | {mixed_in(algebra, some) for some in lots_of_numbers(lot) if some}


class PaperOf(TestCase):
    def test_examples_by_hand(self):
        word, weave = paper_of(ONE_X)
        self.assertEqual(word, "some")
        self.assertTrue(takes(ONE_X, weave))
        self.assertEqual(paper_of(("reader", ("x",), tallied(2), (0, 1), ())), ("none", (0, 1, 2)))
        self.assertEqual(paper_of(("reader", ("x",), tallied(2), (0, 0), (1, 2))), ("none", (0,)))
        self.assertEqual(paper_of(("reader", (), tallied(7), (7,), (1, 2))), ("none", (0, 7)))
        self.assertEqual(paper_of(("reader", (), tallied(7), (7,), (1, 7)))[0], "some")

    def test_each_reader(self):
        words = set()
        for reader in READERS:
            told = paper_of(reader)
            self.assertIs(is_paper(reader, told), True)
            met = tuple(sorted(a for a, in walk_by_hand((reader[2],), [(start,) for start in reader[3]])))
            if told[0] == "some":
                self.assertTrue(takes(reader, told[1]))
                self.assertTrue(any(a in reader[4] for a in met))
            else:
                self.assertEqual(told, ("none", met))
                self.assertFalse(any(a in reader[4] for a in met))
            words.add(told[0])
        self.assertEqual(words, {"some", "none"})

    def test_errors(self):
        for bad in odd_values() + [ONE_X[:4]]:
            self.assertRaises(BadReader, paper_of, bad)
            self.assertRaises(BadReader, is_paper, bad, None)
        self.assertEqual(paper_of(reader=ONE_X)[0], "some")


class IsPaper(TestCase):
    def test_each_lot(self):
        for reader in READERS[::2] + [("reader", ("x",), table, (0, table[1] - 1), ()) for table in ALGEBRAS]:
            right = 0
            for lot in lots_of_numbers(range(reader[2][1])):
                told = is_closed_by_hand(reader, lot) and not any(a in reader[4] for a in lot)
                self.assertIs(is_paper(reader, ("none", lot)), told, (reader, lot))
                right += told
            self.assertEqual(right > 0, paper_of(reader)[0] == "none")

    def test_each_way_of_not_being_closed(self):
        # Whether it is then, on, back or mix that leads out of the lot.
        for reader, lot, right in (
            (("reader", (), tallied(7), (1,), ()), (0, 1), False), (("reader", (), ordered(), (1,), ()), (0, 1), False),
            (("reader", (), ordered(), (1,), ()), (0, 1, 2), False), (("reader", (), ordered(), (1,), ()), (0, 1, 2, 3), True),
            (("reader", (), ordered(), (3,), ()), (0, 3), True), (("reader", (), ordered(), (3,), ()), (0, 2, 3), True),
            (("reader", (), ordered(), (3,), (2,)), (0, 2, 3), False), (("reader", (), ordered(), (3,), (2,)), (0, 3), True),
            (("reader", (), ordered(), (3,), ()), (3,), False), (("reader", (), ordered(), (0,), ()), (0,), True),
            (("reader", ("x",), led(2), (2, 3), ()), (0, 2, 3), False), (("reader", ("x",), led(2), (2, 3), ()), (0, 1, 2, 3), True),
            (("reader", ("x",), led(2), (2, 3), ()), (0, 1, 2), False), (("reader", ("x",), led(2), (2, 2), ()), (0, 1, 2), True),
        ):
            self.assertIs(is_paper(reader, ("none", lot)), right, (reader, lot))

    def test_weaves(self):
        for reader in READERS[::3]:
            for weave in many_weaves(550, reader[1], 4, 12) + [NONE, on(A)]:
                self.assertIs(is_paper(reader, ("some", weave)), takes(reader, weave))
        for weave, right in ((X, True), (A, False), (then(A, X), True), (Y, False), (mix(X), False), (back(A), False)):
            self.assertIs(is_paper(ONE_X, ("some", weave)), right)

    def test_any_value(self):
        empty = ("reader", ("x",), tallied(2), (0, 1), ())
        for reader, paper in ((ONE_X, ("some", then(A, X))), (empty, ("none", (0, 1, 2)))):
            self.assertTrue(is_paper(reader, paper))
            for thing in odd_values() + list(spoiled(paper)) + [paper + ((),), paper[:1], list(paper), paper[1], (paper[1], paper[0])]:
                self.assertIs(is_paper(reader, thing), False)
        for thing in (
            ("none", [0, 1, 2]), ("none", (0, 2, 1)), ("none", (0, 1, 1, 2)), ("none", (False, 1, 2)), ("none", (0, True, 2)), ("none", (0, 1, 2, 3)),
            ("none", ()), ("none", None), ("none", Strange()), ("some", Strange()), ("some", (0, 1, 2)), ("None", (0, 1, 2)), ("none", (0, 1, 2.0)),
            ("some", NONE), ("none", NONE),
        ):
            self.assertIs(is_paper(empty, thing), False)
        self.assertIs(is_paper(reader=empty, thing=("none", (0, 1, 2))), True)
