"""[21]: values of words mixed of kinds, closed lots, mix papers."""

from itertools import combinations_with_replacement, product
from unittest import TestCase

from alongall.algebras import value
from alongall.errors import BadAlgebra, BadElement, BadKinds
from alongall.mixes import is_closed, is_mix_paper, mix_of, mix_paper
from alongall.values import back_of, on_of
from tests.odd import odd_values, spoiled
from tests.oracles import closed_by_hand, least_closed_by_hand, lots_of_numbers, mixed_in
from tests.samples import ALGEBRAS, SMALL_ALGEBRAS, THREES, borne, led, many_weaves, ordered, tallied
from tests.test_algebras import BREAKS_ONE

T = tallied(2)
BAD_KINDS = [
    (), ((),), ((3,),), ((0, 0),), ((1, 0),), ([0],), [(0,)], (0,), ((0,), ()), ((0,), (1,), (3,)), ((True,),), ((0, True),), 0,
    ((0,),) * 9, ((0,), None), (((0,),),), ((-1,),), ((0.0,),),
]
BAD_ELEMENTS = [3, -1, True, False, None, "0", 0.0, (0,)]


def lots(algebra):
    return [lot for lot in lots_of_numbers(range(algebra[1])) if lot]


def some_kinds(algebra, many):
    """Each lot alone, then many tuples of two or three lots."""
    row = lots(algebra)
    found = [(lot,) for lot in row]
    pairs = list(product(row, row)) + list(product(row[::2], row[::3], row))
    return found + pairs[::max(1, len(pairs) // many)]


class MixOf(TestCase):
    def test_examples_by_hand(self):
        # [23], then lots with places that count nothing.
        self.assertEqual(mix_of(T, ((0, 1),)), (0, 1, 2))
        self.assertEqual(mix_of(T, ((1,),)), (2,))
        self.assertEqual(mix_of(T, ((0,),)), (0,))
        self.assertEqual(mix_of(T, ((0,), (1,))), (2,))
        self.assertEqual(mix_of(T, ((0,), (0, 1))), (0, 1, 2))
        self.assertEqual(mix_of(T, ((0, 1), (1,))), (2,))
        self.assertEqual(mix_of(ordered(), ((1,),)), (3,))
        self.assertEqual(mix_of(ordered(), ((0, 1),)), (0, 1, 2, 3))
        self.assertEqual(mix_of(borne(2), ((0, 1), (2,))), (2, 3))
        self.assertEqual(mix_of(led(2), ((2, 3),)), (1,))
        self.assertEqual(mix_of(led(2), ((0, 2, 3),)), (0, 1, 2, 3))

    def test_least_of_all_closed_lots(self):
        for algebra in SMALL_ALGEBRAS + THREES:
            for kinds in some_kinds(algebra, 25 if algebra[1] < 5 else 5):
                told = mix_of(algebra, kinds)
                closed = [lot for lot in lots(algebra) if closed_by_hand(algebra, kinds, lot)]
                self.assertIn(told, closed)
                self.assertTrue(all(set(told) <= set(lot) for lot in closed), (algebra, kinds))
                for lot in lots(algebra):
                    self.assertIs(is_closed(algebra, kinds, lot), lot in closed, (algebra, kinds, lot))

    def test_large_algebras(self):
        for algebra in ALGEBRAS:
            if algebra[1] > 5:
                for kinds in some_kinds(algebra, 3)[::40]:
                    self.assertEqual(mix_of(algebra, kinds), least_closed_by_hand(algebra, kinds))
                    self.assertTrue(is_closed(algebra, kinds, mix_of(algebra, kinds)))

    def test_many_kinds(self):
        for algebra in (T, borne(2), led(2), THREES[4], THREES[10]):
            for kinds in list(combinations_with_replacement(lots(algebra), 8))[::900]:
                self.assertEqual(mix_of(algebra, kinds), least_closed_by_hand(algebra, kinds))

    def test_kinds_in_any_order_and_twice(self):
        for algebra in (T, borne(2), THREES[3], THREES[7]):
            for one, other in product(lots(algebra), repeat=2):
                told = mix_of(algebra, (one, other))
                self.assertEqual(mix_of(algebra, (other, one)), told)
                self.assertEqual(mix_of(algebra, (one, other, one, one)), told)
                self.assertEqual(mix_of(algebra, (one, other, (0,))), told)

    def test_single_elements_are_mixes(self):
        for algebra in ALGEBRAS + THREES:
            for lot in lots(algebra)[:30]:
                kinds = tuple((a,) for a in lot)
                self.assertEqual(mix_of(algebra, kinds), (mixed_in(algebra, lot),))

    def test_values_of_weaves_lie_in_it(self):
        # Mixes of letters, and of what holds such mixes, all kinds being met.
        for algebra in THREES[:8]:
            for one, other in product(lots(algebra), repeat=2):
                told = mix_of(algebra, (one, other))
                for a, b in product(one, other):
                    letters = (("letter", ()), ("letter", ("x",)))
                    m = ("mix", letters)
                    for weave in (m, ("then", m, ("then", letters[1], m)), ("on", ("then", m, letters[0])), ("mix", (m,))):
                        self.assertIn(value(algebra, ("x",), (a, b), weave), told)

    def test_any_value_closed(self):
        for thing in odd_values() + list(spoiled((0, 1, 2))) + [(), (2, 1, 0), (0, 0), [0, 1, 2], (3,), (True,), (0, 1, 2, 3)]:
            self.assertIs(is_closed(T, ((0, 1),), thing), False, thing)
        self.assertIs(is_closed(T, ((0, 1),), (0, 1, 2)), True)
        self.assertIs(is_closed(T, ((1,),), (1, 2)), True)
        self.assertIs(is_closed(T, ((1,),), (1,)), False)
        self.assertIs(is_closed(T, ((1,),), (2,)), True)

    def test_errors_in_order(self):
        for bad in odd_values() + list(BREAKS_ONE):
            self.assertRaises(BadAlgebra, mix_of, bad, None)
            self.assertRaises(BadAlgebra, is_closed, bad, None, None)
            self.assertRaises(BadAlgebra, mix_paper, bad, None, None)
            self.assertRaises(BadAlgebra, is_mix_paper, bad, None, None, None)
        for bad in odd_values() + BAD_KINDS:
            self.assertRaises(BadKinds, mix_of, T, bad)
            self.assertRaises(BadKinds, is_closed, T, bad, None)
            self.assertRaises(BadKinds, mix_paper, T, bad, None)
            self.assertRaises(BadKinds, is_mix_paper, T, bad, None, None)
        for bad in odd_values() + BAD_ELEMENTS:
            self.assertRaises(BadElement, mix_paper, T, ((0, 1),), bad)
            self.assertRaises(BadElement, is_mix_paper, T, ((0, 1),), bad, None)
        self.assertEqual(mix_of(T, ((0,),) * 8), (0,))

    def test_by_name(self):
        kinds = ((0, 1),)
        self.assertTrue(is_closed(algebra=T, kinds=kinds, thing=mix_of(algebra=T, kinds=kinds)))
        paper = mix_paper(algebra=T, kinds=kinds, element=1)
        self.assertTrue(is_mix_paper(algebra=T, kinds=kinds, element=1, thing=paper))


class Papers(TestCase):
    def test_a_paper_exactly_if_in_mix_of(self):
        for algebra in SMALL_ALGEBRAS + THREES + (borne(3), led(6)):
            for kinds in some_kinds(algebra, 12)[::1 if algebra[1] < 5 else 20]:
                inside = mix_of(algebra, kinds)
                for element in range(algebra[1]):
                    told = mix_paper(algebra, kinds, element)
                    self.assertEqual(told is not None, element in inside, (algebra, kinds, element))
                    if told is not None:
                        self.assertLessEqual(len(told), 200)
                        for other in range(algebra[1]):
                            self.assertIs(is_mix_paper(algebra, kinds, other, told), other == element)

    def test_example_by_hand(self):
        # [23]
        paper = (("mix", (0,)), ("with", 0, 1, 0))
        self.assertIs(is_mix_paper(T, ((0, 1),), 1, paper), True)
        self.assertIs(is_mix_paper(T, ((0, 1),), 2, paper), False)
        self.assertIs(is_mix_paper(T, ((0, 1),), 2, (("mix", (0, 1)),)), True)
        self.assertIs(is_mix_paper(T, ((0, 1),), 0, (("mix", (0,)),)), True)
        self.assertIs(is_mix_paper(T, ((0, 1),), 0, ()), False)

    def check(self, algebra, kinds, ahead, line, element):
        """That the line tells the element behind the lines ahead, or is none if element is None."""
        for other in range(algebra[1]):
            self.assertIs(is_mix_paper(algebra, kinds, other, ahead + (line,)), other == element, line)

    def test_lines_of_mix(self):
        kinds = ((0, 1), (0, 2))
        algebra = borne(2)
        for lot, element in (
            ((0,), 0), ((0, 1), 1), ((0, 2), 2), ((0, 1, 2), 3), ((1, 2), 3), ((1,), None), ((2,), None), ((3,), None), ((), None),
            ((0, 3), None), ((1, 0), None), ((0, 0), None), ([0], None), (0, None), (None, None), ((True, 2), None), ((4,), None),
            ((0, 1, 2, 3), None),
        ):
            self.check(algebra, kinds, (), ("mix", lot), element)
        # Behind a line that tells 0 all of 0, 1, 2, 1 and 2 together are beside it.
        for lot, element in (((1,), 1), ((2,), 2), ((3,), 3), ((0, 3), 3), ((1, 3), 3)):
            self.check(algebra, kinds, (("mix", (0,)),), ("mix", lot), element)
        # With one kind of 1 alone nothing brings 0 or 2.
        for lot, element in (((1,), 1), ((0,), None), ((2,), None), ((0, 1), None), ((1, 2), None), ((1, 3), None)):
            self.check(algebra, ((1,),), (("mix", (1,)),), ("mix", lot), element)

    def test_lots_beside_by_hand(self):
        # The lots of a mix line behind one line: of elements of A and T, with one of T, or of A alone with some of each kind.
        for algebra in (T, borne(2), led(2), THREES[2], THREES[9]):
            then_ = algebra[2]
            for kinds in some_kinds(algebra, 6)[::2]:
                whole = sorted({a for lot in kinds for a in lot})
                for first in lots(algebra):
                    paper = (("mix", first),)
                    fits = set(first) <= set(whole) and all(set(first) & set(lot) for lot in kinds)
                    y = mixed_in(algebra, first)
                    self.assertIs(is_mix_paper(algebra, kinds, y, paper), fits)
                    if not fits:
                        continue
                    beside = {y} | {then_[y][a] for a in whole} | {then_[a][y] for a in whole}
                    beside |= {then_[then_[a][y]][b] for a in whole for b in whole}
                    for second in lots(algebra):
                        right = set(second) <= beside | set(whole) and (
                            set(second) & beside or all(set(second) & set(lot) for lot in kinds))
                        element = mixed_in(algebra, second)
                        self.assertIs(
                            is_mix_paper(algebra, kinds, element, paper + (("mix", second),)), bool(right), (algebra, kinds))

    def test_lines_of_then_and_with(self):
        kinds = ((0, 1),)
        ahead = (("mix", (0,)), ("with", 0, 1, 0))
        for line, element in (
            (("then", 0, 1), 1), (("then", 1, 1), 2), (("then", 0, 0), 0), (("then", 2, 0), None), (("then", 0, 2), None),
            (("then", -1, 0), None), (("then", 0, True), None), (("then", False, 0), None), (("then", 0), None),
            (("then", 0, 0, 0), None), (("then", None, 0), None), (["then", 0, 0], None), (("Then", 0, 0), None),
            (("with", 1, 0, 0), 1), (("with", 0, 1, 1), 2), (("with", 1, 1, 0), 2), (("with", 0, 2, 0), None),
            (("with", 2, 1, 0), None), (("with", 0, 1, 2), None), (("with", 0, True, 0), None), (("with", 0, 0), None),
            (("with", 0, 1, 0, 0), None), (("with", False, 1, 0), None), (("with", 0, None, 0), None), (("line", 0), None),
            (("with", 0, 3, 0), None), (("with", 0, -1, 0), None), ((), None), (("mix",), None), (("mix", (0,), (0,)), None),
        ):
            self.check(T, kinds, ahead, line, element)

    def test_order_of_with(self):
        kinds = ((2,), (3,))
        algebra = led(2)
        ahead = (("mix", (2, 3)),)
        self.check(algebra, kinds, ahead, ("with", 0, 2, 0), 1)
        ahead = (("mix", (0, 2)), ("mix", (0,)))
        self.check(algebra, ((0, 2, 3),), ahead, ("with", 1, 2, 0), 2)
        self.check(algebra, ((0, 2, 3),), ahead, ("with", 1, 3, 0), 3)
        self.check(algebra, ((0, 2, 3),), ahead, ("with", 0, 3, 1), 1)

    def test_lines_of_on_and_back(self):
        kinds = ((0, 2, 3),)
        algebra = led(2)
        # 0, then words of others without a first place, then those with 2 first.
        ahead = (("mix", (0,)), ("mix", (0, 2)), ("with", 0, 2, 0))
        one, two, three = ("line", 0), ("line", 1), ("line", 2)
        for line, element in (
            (("on", (), (one,)), 0), (("on", (), (two,)), 1), (("on", (), (three,)), 2), (("on", (one,), (three,)), 2),
            (("on", (two,), (three,)), 1), (("on", (three, two), (one,)), 2), (("on", (), (one, three)), 2),
            (("on", (), (("ends", 0, 3),)), 3), (("on", (("ends", 0, 3),), (three,)), 3), (("on", (one,), (two, three)), 1),
            (("on", (), ()), None), (("on", (three,), ()), None), (("on", (), (("begins", 3, 0),)), None),
            (("on", (("begins", 3, 0),), (one,)), None), (("on", (), (("line", 3),)), None), (("on", (("line", 3),), (one,)), None),
            (("on", (), (("ends", 3, 0),)), None), (("on", (), (("ends", 0, 1),)), None), (("on", (), (("ends", 0, 4),)), None),
            (("on", (), (("ends", 0, True),)), None), (("on", (), (("line", False),)), None), (("on", [], (one,)), None),
            (("on", (), [one]), None), (("on", (), (list(one),)), None), (("on", (), (("line", 0, 0),)), None),
            (("on", (), (("ends", 0),)), None), (("on", (), (("ends", 0, 3, 0),)), None), (("on", (one,)), None),
            (("on", (), (0,)), None), (("on", (), None), None), (("on", None, (one,)), None), (("on", (), (one,), ()), None),
            (("back", (one,), ()), 0), (("back", (two,), ()), 1), (("back", (three,), ()), 1), (("back", (one,), (three,)), 2),
            (("back", (one,), (three, two)), 2), (("back", (one,), (("begins", 3, 0),)), 3), (("back", (three,), (one,)), 1),
            (("back", (("begins", 3, 0),), ()), 1), (("back", (one, three), (one,)), 1), (("back", (one,), (one, two, three)), 1),
            (("back", (), ()), None), (("back", (), (three,)), None), (("back", (("ends", 0, 3),), ()), None),
            (("back", (one,), (("ends", 0, 3),)), None), (("back", (("line", 3),), ()), None), (("back", (one,), (("line", 3),)), None),
            (("back", (("begins", 0, 3),), ()), None), (("back", (("begins", 1, 0),), ()), None), (("back", [one], ()), None),
            (("back", (one,), []), None), (("back", (("begins", True, 0),), ()), None), (("back", (one,)), None),
        ):
            self.check(algebra, kinds, ahead, line, element)

    def test_long_papers(self):
        kinds = ((0, 1),)
        first = (("mix", (0,)),)
        for many, right in ((199, True), (200, True), (201, False)):
            paper = first * (many - 1) + (("with", many - 2, 1, 0),)
            self.assertEqual(len(paper), many)
            self.assertIs(is_mix_paper(T, kinds, 1, paper), right)
        self.assertIs(is_mix_paper(T, kinds, 2, first + (("on", (), (("ends", 0, 1),) * 50000),)), True)

    def test_a_wrong_line_anywhere(self):
        paper = (("mix", (0,)), ("with", 0, 1, 0), ("then", 1, 1))
        self.assertIs(is_mix_paper(T, ((0, 1),), 2, paper), True)
        for at in range(3):
            for line in (("then", at, 0), ("mix", (3,)), None, ("mix", ())):
                self.assertIs(is_mix_paper(T, ((0, 1),), 2, paper[:at] + (line,) + paper[at:]), False)

    def test_bent_papers(self):
        paper = (("mix", (0,)), ("with", 0, 1, 0), ("on", (("line", 1),), (("ends", 0, 0),)))
        self.assertIs(is_mix_paper(T, ((0, 1),), 1, paper), True)
        for thing in odd_values() + list(spoiled(paper)):
            self.assertIs(is_mix_paper(T, ((0, 1),), 1, thing), False, thing)

    def test_on_of_and_back_of_come_by_papers(self):
        for algebra in THREES[:10]:
            for lot in lots(algebra):
                inside = mix_of(algebra, (lot,))
                ends = sorted({algebra[2][y][a] for y in inside for a in lot} | set(inside))
                begins = sorted({algebra[2][a][y] for y in inside for a in lot} | set(inside))
                self.assertTrue(set(on_of(algebra, tuple(ends))) <= set(inside))
                self.assertTrue(set(back_of(algebra, tuple(begins))) <= set(inside))
