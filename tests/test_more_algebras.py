"""[13], [15], [33], [34], [73]: algebras in which some elements are met, or parted, in one way alone."""

from itertools import product
from unittest import TestCase

from alongall.building import made, paired
from alongall.chains import around, chain, is_chain, parting
from alongall.changing import widened
from alongall.combining import contrary, joining, meeting
from alongall.errors import TooMany
from alongall.flaws import flaw
from alongall.hiding import hidden
from alongall.least import least
from alongall.merging import coarsest, mergings
from alongall.readers import takes
from alongall.ties import is_tie, tie
from alongall.ways import is_way, way_of
from alongall.weighing import apart, classes
from tests.oracles import fewest_turns, lots_of_numbers, mergings_by_hand, same_words, table_by_hand, walk_by_hand
from tests.samples import ALGEBRAS, MORE_ALGEBRAS, THREES, many_weaves, tallied
from tests.test_lots import values_by_hand

MIXED, ENDED, BEGUN = MORE_ALGEBRAS
READERS = [
    ("reader", ("x",), table, starts, taken) for table, starts in ((MIXED, (1, 2)), (MIXED, (2, 1)), (ENDED, (1, 1)), (ENDED, (0, 1)), (BEGUN, (1, 1)))
    for taken in ((4,), (3,), (1, 2), (0, 3), (1, 4), (2,))]


class MoreAlgebras(TestCase):
    def test_by_hand(self):
        self.assertEqual(made(MIXED, (1, 2))[1], (0, 1, 2, 3, 4))
        self.assertEqual(made(MIXED, (1, 3))[1], (0, 1, 3))
        self.assertEqual(made(ENDED, (1,))[1], (0, 1, 2, 4, 3))
        self.assertEqual(made(ENDED, (2,))[1], (0, 2, 4))
        self.assertEqual(made(BEGUN, (1,))[1], (0, 1, 4, 2, 3))
        for table in MORE_ALGEBRAS:
            self.assertIsNone(flaw(table))

    def test_walks(self):
        for table in MORE_ALGEBRAS:
            for given in ((1,), (2,), (1, 2), (2, 1), (3, 1), (4, 1, 2), (2, 3)):
                line = [a for a, in walk_by_hand((table,), [(a,) for a in given])]
                self.assertEqual(made(table, given), (table_by_hand((table,), [(a,) for a in line]), tuple(line)))
        told = 0
        for one, other in product(MORE_ALGEBRAS, MORE_ALGEBRAS + THREES[:4] + ALGEBRAS[:2]):
            for given in (((1, 1),), ((1, 1), (2, 1)), ((1, 2), (2, 1)), ((0, 1), (1, 0)), ((1, 1), (2, 2))):
                if any(b >= other[1] for _, b in given):
                    continue
                try:
                    found = paired(one, other, given)
                except TooMany:
                    continue
                line = walk_by_hand((one, other), list(given))
                self.assertEqual(found, (table_by_hand((one, other), line), tuple(line)))
                told += 1
        self.assertGreater(told, 40)

    def test_parted_by_mixes(self):
        self.assertIn(parting(MIXED, (4,), 1, 2), ((("mix", (1,)),), (("mix", (2,)),), (("mix", (0, 1)),), (("mix", (0, 2)),)))
        for table in MORE_ALGEBRAS:
            for lot in lots_of_numbers(range(5)):
                for first, last in product(range(5), repeat=2):
                    turns = parting(table, lot, first, last)
                    self.assertEqual(None if turns is None else len(turns), fewest_turns(table, lot, first, last))
                    if turns is not None:
                        self.assertNotEqual(around(table, turns, first) in lot, around(table, turns, last) in lot)
                    same = any(first in one and last in one for one in coarsest(table, lot))
                    self.assertEqual(turns is None, same)
            self.assertEqual(mergings(table), mergings_by_hand(table))
            for pair in product(range(5), repeat=2):
                for first, last in product(range(5), repeat=2):
                    links = chain(table, (pair,), first, last)
                    if links is not None:
                        self.assertTrue(is_chain(table, (pair,), first, last, links))

    def test_least_readers(self):
        for reader in READERS:
            small = least(reader)
            self.assertTrue(same_words(reader, small))
            self.assertEqual(least(small), small)
            self.assertTrue(is_tie(reader, small, tie(reader, small)))
            self.assertEqual(contrary(contrary(reader)), small)
            self.assertEqual(hidden(widened(reader, ("x", "y")), "y"), small)
            table, line = made(reader[2], reader[3])
            way = way_of(table, small[2], tuple((line.index(start), image) for start, image in zip(reader[3], small[3])))
            self.assertTrue(is_way(table, small[2], way))

    def test_two_readers(self):
        told = 0
        for one, other in product(READERS[::3], READERS[1::4] + [("reader", ("x",), tallied(2), (0, 1), (1,))]):
            try:
                both, some = meeting(one, other), joining(one, other)
                parted = apart(one, other)
            except TooMany:
                continue
            for weave in [weave for _, weave in classes(both) + classes(some)] + many_weaves(740, ("x",), 4, 4):
                self.assertIs(takes(both, weave), takes(one, weave) and takes(other, weave))
                self.assertIs(takes(some, weave), takes(one, weave) or takes(other, weave))
            self.assertEqual(parted is None, same_words(one, other))
            self.assertEqual(joining(one, other), contrary(meeting(contrary(one), contrary(other))))
            self.assertEqual(least(both), both)
            told += 1
        self.assertGreater(told, 40)

    def test_hidden(self):
        for reader in READERS:
            found = hidden(reader, "x")
            self.assertEqual(least(found), found)
            for weave in many_weaves(741, (), 3, 6):
                lots = values_by_hand(reader[2], (), (tuple(sorted(set(reader[3]))),), weave)
                self.assertIs(takes(found, weave), any(a in reader[4] for a in lots))
