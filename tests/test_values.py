"""[20]: lots of values."""

from itertools import product
from unittest import TestCase

from alongall.algebras import value
from alongall.errors import BadAlgebra, BadElement, BadLot
from alongall.values import back_of, is_lot, is_on_paper, on_of, on_paper, plus, then_of
from tests.odd import odd_values, spoiled
from tests.oracles import lots_of_numbers
from tests.samples import SMALL_ALGEBRAS, THREES, borne, flipped_by_hand, led, ordered, tallied
from tests.test_algebras import BREAKS_ONE

T = tallied(2)
BAD_LOTS = ((), (3,), (-1,), (1, 0), (1, 1), [1], 1, (True,), (1.0,), (0, 1, 2, 3), ("1",), (None,), ((1,),), None, {1})
BAD_ELEMENTS = (3, -1, True, 1.0, None, "1", (1,))


def lots(algebra):
    return [lot for lot in lots_of_numbers(range(algebra[1])) if lot]


def products(algebra, lot, most):
    """The values of all rows of 1 to most elements of lot."""
    found = set()
    rows = set(lot)
    for _ in range(most):
        found |= rows
        rows = {algebra[2][a][b] for a in rows for b in lot}
    return found


class Lots(TestCase):
    def test_is_lot(self):
        for algebra in SMALL_ALGEBRAS:
            for lot in lots(algebra):
                self.assertIs(is_lot(algebra, lot), True)
        for thing in list(BAD_LOTS) + odd_values() + list(spoiled((0, 1))):
            self.assertIs(is_lot(T, thing), False, thing)

    def test_then_of(self):
        self.assertEqual(then_of(T, (0, 1), (1, 2)), (1, 2))
        self.assertEqual(then_of(led(2), (2,), (0, 3)), (2,))
        self.assertEqual(then_of(led(2), (0, 2), (3,)), (2, 3))
        for algebra in THREES:
            for one, other in product(lots(algebra), repeat=2):
                told = {algebra[2][a][b] for a in one for b in other}
                self.assertEqual(then_of(algebra, one, other), tuple(sorted(told)))

    def test_plus(self):
        self.assertEqual(plus(T, (0,)), (0,))
        self.assertEqual(plus(tallied(7), (3,)), (3, 6, 7))
        self.assertEqual(plus(tallied(7), (2, 7)), (2, 4, 6, 7))
        self.assertEqual(plus(borne(3), (1, 2)), (1, 2, 3))
        for algebra in SMALL_ALGEBRAS + THREES:
            for lot in lots(algebra):
                self.assertEqual(plus(algebra, lot), tuple(sorted(products(algebra, lot, 9))))

    def test_on_of_and_back_of(self):
        self.assertEqual(on_of(T, (0, 1)), (0, 1, 2))
        self.assertEqual(on_of(T, (1,)), (2,))
        self.assertEqual(on_of(T, (0,)), (0,))
        self.assertEqual(on_of(led(2), (2, 3)), (2, 3))
        self.assertEqual(back_of(led(2), (2, 3)), (1,))
        self.assertEqual(back_of(led(2), (0, 2)), (0, 1, 2))
        self.assertEqual(on_of(led(2), (0, 2)), (0, 2))
        for algebra in SMALL_ALGEBRAS + THREES:
            _, _, then_, on_, back_, _ = algebra
            for lot in lots(algebra):
                rows = products(algebra, lot, 9)
                self.assertEqual(on_of(algebra, lot), tuple(sorted({then_[s][on_[e]] for s in rows for e in rows})))
                self.assertEqual(back_of(algebra, lot), tuple(sorted({then_[back_[e]][s] for s in rows for e in rows})))

    def test_back_is_on_flipped(self):
        for algebra in SMALL_ALGEBRAS + THREES:
            for lot in lots(algebra):
                self.assertEqual(back_of(algebra, lot), on_of(flipped_by_hand(algebra), lot))

    def test_values_of_words_without_end(self):
        # Words s e e e .. of letters with these starts have values in on_of, and all of these come so.
        scope = ("x",)
        for algebra in (T, led(1), ordered()) + THREES[:4]:
            for lot in lots(algebra):
                if len(lot) > 2:
                    continue
                starts = (lot[0], lot[-1])
                letters = [("letter", ()), ("letter", ("x",))]
                rows = [row for many in (1, 2, 3) for row in product(letters, repeat=many)]
                found = set()
                for ahead, again in product(rows, rows):
                    weave = ("on", chained(again))
                    for letter in reversed(ahead):
                        weave = ("then", letter, weave)
                    found.add(value(algebra, scope, starts, weave))
                self.assertEqual(on_of(algebra, lot), tuple(sorted(found)))

    def test_errors_in_order(self):
        for bad in odd_values() + list(BREAKS_ONE):
            self.assertRaises(BadAlgebra, is_lot, bad, None)
            self.assertRaises(BadAlgebra, then_of, bad, None, None)
            self.assertRaises(BadAlgebra, on_paper, bad, None, None)
            self.assertRaises(BadAlgebra, is_on_paper, bad, None, None, None)
            for ask in (plus, on_of, back_of):
                self.assertRaises(BadAlgebra, ask, bad, None)
        for bad in list(BAD_LOTS) + odd_values():
            for ask in (plus, on_of, back_of):
                self.assertRaises(BadLot, ask, T, bad)
            self.assertRaises(BadLot, then_of, T, bad, None)
            self.assertRaises(BadLot, then_of, T, bad, (0,))
            self.assertRaises(BadLot, then_of, T, (0,), bad)
            self.assertRaises(BadLot, on_paper, T, bad, None)
            self.assertRaises(BadLot, is_on_paper, T, bad, None, None)
        for bad in BAD_ELEMENTS:
            self.assertRaises(BadElement, on_paper, T, (0,), bad)
            self.assertRaises(BadElement, is_on_paper, T, (0,), bad, None)

    def test_by_name(self):
        self.assertTrue(is_lot(algebra=T, thing=(1,)))
        self.assertEqual(then_of(algebra=T, one=(0,), other=(1,)), plus(algebra=tallied(1), lot=(1,)))
        self.assertEqual(on_of(algebra=T, lot=(1,)), back_of(algebra=T, lot=(1,)))
        self.assertTrue(is_on_paper(algebra=T, lot=(1,), element=2, thing=on_paper(algebra=T, lot=(1,), element=2)))


class Papers(TestCase):
    def product_of(self, algebra, row):
        whole = 0
        for a in row:
            whole = algebra[2][whole][a]
        return whole

    def test_a_paper_exactly_if_in_on_of(self):
        for algebra in SMALL_ALGEBRAS + THREES + (borne(3),):
            for lot in lots(algebra)[:20]:
                inside = on_of(algebra, lot)
                for element in range(algebra[1]):
                    told = on_paper(algebra, lot, element)
                    self.assertEqual(told is not None, element in inside)
                    if told is not None:
                        ahead, again = told
                        self.assertTrue(again and set(ahead + again) <= set(lot))
                        whole = algebra[2][self.product_of(algebra, ahead)][algebra[3][self.product_of(algebra, again)]]
                        self.assertEqual(whole, element)
                        self.assertIs(is_on_paper(algebra, lot, element, told), True)

    def test_every_right_paper(self):
        for algebra in (T, led(2), THREES[8]):
            for lot in ((1,), (0, 2), (1, 2)):
                rows = [row for many in (0, 1, 2) for row in product(lot, repeat=many)]
                for ahead, again in product(rows, rows):
                    if again == ():
                        self.assertIs(is_on_paper(algebra, lot, self.product_of(algebra, ahead), (ahead, again)), False)
                        continue
                    end = algebra[3][self.product_of(algebra, again)]
                    whole = algebra[2][self.product_of(algebra, ahead)][end]
                    for element in range(algebra[1]):
                        self.assertIs(is_on_paper(algebra, lot, element, (ahead, again)), element == whole)

    def test_example_by_hand(self):
        # [23]
        self.assertIs(is_on_paper(T, (0, 1), 1, ((1,), (0,))), True)
        self.assertIs(is_on_paper(T, (0, 1), 1, ((), (0,))), False)
        self.assertIs(is_on_paper(T, (0, 1), 0, ((), (0,))), True)

    def test_bent_papers(self):
        for thing in odd_values() + list(spoiled(((1,), (0,)))) + [
            ((1,),), ((1,), (0,), ()), [(1,), (0,)], ([1], (0,)), ((1,), [0]), ((1,), ()), ((), ()), ((2,), (0,)), ((True,), (0,)),
            ((1,), (False,)), (1, 0), ((1,), 0), ((1,), (2,)), ((1, None), (0,)), ((1.0,), (0,)), ((3,), (0,)),
        ]:
            self.assertIs(is_on_paper(T, (0, 1), 1, thing), False, thing)
        self.assertIs(is_on_paper(T, (0, 1), 1, ((0,) * 50000 + (1,), (0,) * 50000)), True)


def chained(row):
    """The weave of a row of letters."""
    whole = row[-1]
    for letter in reversed(row[:-1]):
        whole = ("then", letter, whole)
    return whole
