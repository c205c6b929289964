"""[15]: surroundings, chains, parting."""

from itertools import product
from random import Random
from unittest import TestCase

from alongall.chains import around, chain, is_chain, parting
from alongall.errors import BadAlgebra, BadElement, BadLot, BadPairs, BadSurroundings
from alongall.merging import coarsest, least_merging
from tests.odd import odd_values, spoiled
from tests.oracles import fewest_turns, lots_of_numbers, turned_to, turns_of
from tests.samples import ALGEBRAS, SMALL_ALGEBRAS, THREES, borne, led, ordered, tallied
from tests.test_algebras import BREAKS_ONE

T = tallied(2)
L = led(2)
BAD_ELEMENTS = (3, -1, True, 1.0, None, "1", (1,))
BAD_TURNS = (
    ("left",), ("left", 3), ("left", True), ("left", 1, 1), ("right", -1), ("right", (1,)), ("on", 1), ("back", 0), ("on", ()),
    ("mix",), ("mix", 1), ("mix", [1]), ("mix", (1, 0)), ("mix", (1, 1)), ("mix", (3,)), ("mix", (True,)), ("mix", (), ()),
    ("then", 1), "on", ["on"], (), None, ("ON",), (("on",),), ("mix", None), ("left", 1.0),
)


def turned_all(algebra, turns, element):
    for turn in turns:
        element = turned_to(algebra, turn, element)
    return element


class Around(TestCase):
    def test_each_turn(self):
        for algebra in ALGEBRAS[:9] + ALGEBRAS[10:] + THREES:
            if algebra[1] <= 5:
                for turn in turns_of(algebra):
                    for element in range(algebra[1]):
                        self.assertEqual(around(algebra, (turn,), element), turned_to(algebra, turn, element))

    def test_by_hand(self):
        self.assertEqual(around(L, (("left", 3),), 2), 3)
        self.assertEqual(around(L, (("right", 3),), 2), 2)
        self.assertEqual(around(L, (("on",),), 2), 2)
        self.assertEqual(around(L, (("back",),), 2), 1)
        self.assertEqual(around(L, (("mix", ()),), 0), 0)
        self.assertEqual(around(L, (("mix", ()),), 3), 1)
        self.assertEqual(around(L, (("mix", (2,)),), 0), 1)
        self.assertEqual(around(borne(2), (("mix", (1,)),), 2), 3)

    def test_one_after_another(self):
        self.assertEqual(around(tallied(7), (("left", 1), ("right", 2)), 1), 4)
        self.assertEqual(around(L, (("back",), ("left", 2)), 3), 2)
        self.assertEqual(around(L, (("left", 2), ("back",)), 3), 1)
        self.assertEqual(around(tallied(7), (("left", 1),) * 5, 1), 6)
        for element in range(4):
            self.assertEqual(around(L, (), element), element)

    def test_hundred_turns(self):
        self.assertEqual(around(T, (("left", 0),) * 100, 1), 1)
        self.assertRaises(BadSurroundings, around, T, (("left", 0),) * 101, 1)

    def test_errors_in_order(self):
        for bad in odd_values() + list(BREAKS_ONE):
            self.assertRaises(BadAlgebra, around, bad, None, None)
        for bad in odd_values() + [[("on",)]]:
            self.assertRaises(BadSurroundings, around, T, bad, None)
        for turn in BAD_TURNS + tuple(spoiled(("mix", (0, 1)))):
            self.assertRaises(BadSurroundings, around, T, (turn,), 0)
            self.assertRaises(BadSurroundings, around, T, (("on",), turn), 9)
        for bad in tuple(odd_values()) + BAD_ELEMENTS:
            if not (isinstance(bad, int) and not isinstance(bad, bool) and bad in (0, 1, 2)):
                self.assertRaises(BadElement, around, T, (("on",),), bad)
        self.assertEqual(around(algebra=T, surroundings=(), element=2), 2)


class Chains(TestCase):
    def test_example_by_hand(self):
        # [18]: 1 of 1 and 0, 2 of 1 and 1.
        self.assertIs(is_chain(T, ((0, 1),), 1, 2, (((("left", 1),), 0, 0),)), True)
        self.assertIs(is_chain(T, ((0, 1),), 1, 2, (((("left", 1),), 0, 1),)), False)
        self.assertIs(is_chain(T, ((0, 1),), 2, 1, (((("left", 1),), 0, 1),)), True)
        self.assertIs(is_chain(T, ((0, 1),), 1, 2, chain(T, ((0, 1),), 1, 2)), True)

    def test_chains_and_mergings(self):
        random = Random(4)
        for algebra in SMALL_ALGEBRAS + THREES:
            numbers = range(algebra[1])
            all_pairs = list(product(numbers, repeat=2))
            for pairs in [(), (all_pairs[1],)] + [tuple(random.sample(all_pairs, many)) for many in (1, 1, 2, 3)]:
                home = {a: lot for lot in least_merging(algebra, pairs) for a in lot}
                for first, last in all_pairs:
                    told = chain(algebra, pairs, first, last)
                    self.assertEqual(told is not None, home[first] == home[last])
                    if told is not None:
                        self.check_chain(algebra, pairs, first, last, told)

    def check_chain(self, algebra, pairs, first, last, told):
        self.assertIs(is_chain(algebra, pairs, first, last, told), True)
        here = first
        for turns, number, way in told:
            self.assertEqual(turned_all(algebra, turns, pairs[number][way]), here)
            here = turned_all(algebra, turns, pairs[number][1 - way])
        self.assertEqual(here, last)
        # Links left out, or turned round, lead elsewhere, if they lead at all.
        for at, (turns, number, way) in enumerate(told):
            ends = [turned_all(algebra, turns, element) for element in pairs[number]]
            turned = told[:at] + ((turns, number, 1 - way),) + told[at + 1:]
            self.assertIs(is_chain(algebra, pairs, first, last, turned), ends[0] == ends[1])
            self.assertIs(is_chain(algebra, pairs, first, last, told[:at] + told[at + 1:]), ends[0] == ends[1])

    def test_several_links(self):
        pairs = ((2, 3), (4, 3), (4, 5), (6, 5))
        told = chain(led(6), pairs, 2, 6)
        self.assertEqual(len(told), 4)
        self.check_chain(led(6), pairs, 2, 6, told)
        self.assertIsNone(chain(led(6), pairs, 2, 7))
        self.assertIsNone(chain(led(6), pairs, 0, 2))
        told = chain(tallied(7), ((3, 4),), 3, 7)
        self.assertGreaterEqual(len(told), 1)
        self.check_chain(tallied(7), ((3, 4),), 3, 7, told)
        self.assertIsNone(chain(tallied(7), ((3, 4),), 2, 3))

    def test_no_link(self):
        for algebra in ALGEBRAS:
            for element in range(algebra[1]):
                self.assertEqual(chain(algebra, (), element, element), ())
                self.assertIs(is_chain(algebra, (), element, element, ()), True)
            self.assertIsNone(chain(algebra, (), 0, 1))
            self.assertIs(is_chain(algebra, (), 0, 1, ()), False)

    def test_is_chain_of_any_value(self):
        right = ((("left", 1),), 0, 0)
        pairs = ((0, 1), (1, 2))
        self.assertIs(is_chain(T, pairs, 1, 2, (right,)), True)
        self.assertIs(is_chain(T, pairs, 1, 2, ((), 1, 0)), False)
        self.assertIs(is_chain(T, pairs, 1, 2, (((), 1, 0),)), True)
        for link in (
            ((("left", 1),), 0), right + (0,), ((("left", 1),), 2, 0), ((("left", 1),), 0, 2), ((("left", 1),), 0, False),
            ((("left", 1),), False, 0), ((("left", 1),), -2, 0), ([("left", 1)], 0, 0), ((["left", 1],), 0, 0), (("left", 1), 0, 0),
            ((("left", 1),), 0, -1), ((("left", 1),), 0, None), list(right), None, (), ((("left", 0),) * 101 + (("left", 1),), 0, 0),
        ):
            self.assertIs(is_chain(T, pairs, 1, 2, (link,)), False, link)
        self.assertIs(is_chain(T, pairs, 1, 2, ((("left", 0),) * 99 + (("left", 1),), 0, 0)), False)
        self.assertIs(is_chain(T, pairs, 1, 2, (((("left", 0),) * 99 + (("left", 1),), 0, 0),)), True)
        for thing in odd_values() + [[right], right, (right, right)] + list(spoiled((right,))):
            self.assertIs(is_chain(T, pairs, 1, 2, thing), False)

    def test_hundred_links(self):
        forth, return_ = ((), 0, 0), ((), 0, 1)
        self.assertIs(is_chain(T, ((0, 1),), 0, 0, (forth, return_) * 50), True)
        self.assertIs(is_chain(T, ((0, 1),), 0, 1, (forth, return_) * 50 + (forth,)), False)
        self.assertIs(is_chain(T, ((0, 1),), 0, 1, (forth, return_) * 49 + (forth,)), True)

    def test_errors_in_order(self):
        for ask in (lambda *told: chain(*told), lambda *told: is_chain(*told, None)):
            for bad in odd_values() + list(BREAKS_ONE):
                self.assertRaises(BadAlgebra, ask, bad, None, None, None)
            for bad in odd_values() + [((0, 3),), ((0, 1),) * 21, [(0, 1)], ((0, True),), ((0,),)]:
                self.assertRaises(BadPairs, ask, T, bad, None, None)
            for bad in BAD_ELEMENTS:
                self.assertRaises(BadElement, ask, T, ((0, 1),), bad, None)
                self.assertRaises(BadElement, ask, T, ((0, 1),), bad, 0)
                self.assertRaises(BadElement, ask, T, ((0, 1),), 0, bad)
        self.assertEqual(chain(T, ((0, 1),) * 20, 0, 0), ())
        self.assertEqual(chain(algebra=T, pairs=(), first=0, last=0), ())
        self.assertTrue(is_chain(algebra=T, pairs=(), first=0, last=0, thing=()))


class Parting(TestCase):
    def test_example_by_hand(self):
        # [18]
        told = parting(T, (2,), 0, 1)
        self.assertEqual(len(told), 1)
        self.assertEqual(around(T, (("on",),), 0), 0)
        self.assertEqual(around(T, (("on",),), 1), 2)

    def test_as_few_as_can_be(self):
        for algebra in SMALL_ALGEBRAS + THREES:
            numbers = range(algebra[1])
            for lot in lots_of_numbers(numbers):
                home = {a: part for part in coarsest(algebra, lot) for a in part}
                for first, last in product(numbers, repeat=2):
                    told = parting(algebra, lot, first, last)
                    many = fewest_turns(algebra, lot, first, last)
                    self.assertEqual(told is None, home[first] == home[last])
                    if told is None:
                        self.assertIsNone(many)
                    else:
                        self.assertEqual(len(told), many)
                        ends = (around(algebra, told, first), around(algebra, told, last))
                        self.assertNotEqual(ends[0] in lot, ends[1] in lot)

    def test_several_turns(self):
        self.assertEqual(parting(tallied(7), (2,), 2, 5), ())
        self.assertIsNone(parting(tallied(7), (2,), 3, 5))
        self.assertEqual(len(parting(tallied(7), (7,), 3, 4)), 1)
        self.assertEqual(parting(ordered(), (0, 1), 1, 2), ())
        self.assertIsNone(parting(T, (), 0, 1))
        self.assertIsNone(parting(T, (0, 1, 2), 0, 1))
        self.assertIsNone(parting(T, (1,), 2, 2))

    def test_errors_in_order(self):
        for bad in odd_values() + list(BREAKS_ONE):
            self.assertRaises(BadAlgebra, parting, bad, None, None, None)
        for bad in odd_values() + [(3,), (1, 0), (1, 1), [1], 1, (True,), (0, 1, 2, 3)]:
            self.assertRaises(BadLot, parting, T, bad, None, None)
        for bad in BAD_ELEMENTS:
            self.assertRaises(BadElement, parting, T, (), bad, None)
            self.assertRaises(BadElement, parting, T, (), bad, 0)
            self.assertRaises(BadElement, parting, T, (), 0, bad)
        self.assertEqual(parting(algebra=T, lot=(1,), first=1, last=0), ())
