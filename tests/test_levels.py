"""[71], [72]: levels of readers and of weaves."""

from unittest import TestCase

from alongall.algebras import value
from alongall.errors import BadReader, BadScope, BadWeave
from alongall.kinds import is_of, met_in
from alongall.levels import level, levels
from tests.odd import odd_values
from tests.oracles import lots_of_numbers, mixed_in
from tests.samples import A, ALGEBRAS, NONE, X, back, many_weaves, mix, on, parts_by_hand, tallied, then
from tests.test_lengths import READERS
from tests.test_making import BAD_SCOPES, BAD_WEAVES, deep
from tests.test_readers import ONE_X, many_readers

XY = ("x", "y")


def closed_by_hand(algebra, lot, rows=False):
    """The least lot with a lot in it that is closed under then, and, if rows is True, on and back."""
    lot = set(lot)
    while True:
        more = lot | {algebra[2][a][b] for a in lot for b in lot}
        if rows:
            more |= {algebra[3][a] for a in lot} | {algebra[4][a] for a in lot}
        if more == lot:
            return lot
        lot = more


def levels_by_hand(reader):
    _, _, algebra, starts, _ = reader
    rows = [closed_by_hand(algebra, {0, *starts})]
    while True:
        more = closed_by_hand(algebra, rows[-1] | {algebra[3][a] for a in rows[-1]} | {algebra[4][a] for a in rows[-1]})
        if more == rows[-1]:
            break
        rows.append(more)
    mixes = [rows[-1]]
    while True:
        mixed = {mixed_in(algebra, lot) for lot in lots_of_numbers(mixes[-1]) if lot}
        more = closed_by_hand(algebra, mixes[-1] | mixed, True)
        if more == mixes[-1]:
            return tuple(tuple(sorted(lot)) for lot in rows), tuple(tuple(sorted(lot)) for lot in mixes)
        mixes.append(more)


def has_places(weave):
    return weave[0] == "letter" or any(has_places(part) for part in parts_by_hand(weave))


def within_by_hand(weave, heads):
    if not has_places(weave):
        return 0
    return (weave[0] in heads) + max((within_by_hand(part, heads) for part in parts_by_hand(weave)), default=0)


class Levels(TestCase):
    def test_examples_by_hand(self):
        # [79]
        self.assertEqual(levels(ONE_X), (((0, 1, 2),), ((0, 1, 2),)))
        self.assertEqual(levels(("reader", (), ALGEBRAS[12], (1,), ())), (((0, 1), (0, 1, 2)), ((0, 1, 2), (0, 1, 2, 3))))
        self.assertEqual(levels(("reader", (), ALGEBRAS[12], (2,), ())), (((0, 2),), ((0, 2), (0, 2, 3))))
        self.assertEqual(levels(("reader", (), ALGEBRAS[12], (0,), ())), (((0,),), ((0,),)))
        self.assertEqual(levels(("reader", (), tallied(7), (7,), (7,))), (((0, 7),), ((0, 7),)))
        self.assertEqual(levels(("reader", (), ("algebra", 1, ((0,),), (0,), (0,), (0, 0)), (0,), ())), (((0,),), ((0,),)))

    def test_lot_by_lot(self):
        longest = 0
        for reader in READERS + many_readers(540, 60, ((), ("x",)), ALGEBRAS):
            told = levels(reader)
            self.assertEqual(told, levels_by_hand(reader))
            rows, mixes = told
            self.assertEqual(rows[-1], mixes[0])
            self.assertEqual(rows[-1], met_in(reader, "scattered"))
            self.assertEqual(mixes[-1], met_in(reader, "any"))
            self.assertEqual(rows[0], met_in(reader, "finite"))
            self.assertLessEqual(max(len(rows), len(mixes)), reader[2][1])
            longest = max(longest, len(rows), len(mixes))
        self.assertGreater(longest, 1)

    def test_errors(self):
        for bad in odd_values() + [ONE_X[:4]]:
            self.assertRaises(BadReader, levels, bad)
        self.assertEqual(levels(reader=ONE_X)[0], ((0, 1, 2),))


class Level(TestCase):
    def test_by_hand(self):
        # [79] first.
        for weave, right in (
            (on(on(A)), (2, 0)), (then(on(A), back(A)), (1, 0)), (on(mix(A)), (0, 1)), (NONE, (0, 0)), (A, (0, 0)), (then(A, X, A), (0, 0)),
            (on(A), (1, 0)), (back(on(A)), (2, 0)), (on(back(A)), (2, 0)), (on(NONE), (0, 0)), (on(on(NONE)), (0, 0)), (back(then(NONE, NONE)), (0, 0)),
            (on(then(NONE, A)), (1, 0)), (on(then(on(NONE), A)), (1, 0)), (on(then(A, back(back(NONE)))), (1, 0)), (on(mix(NONE)), (0, 0)),
            (on(then(A, mix(NONE))), (1, 0)), (then(on(on(A)), back(A)), (2, 0)), (then(on(A), on(on(back(A)))), (3, 0)),
            (on(then(on(A), back(A))), (2, 0)), (mix(NONE), (0, 0)), (mix(A), (0, 1)), (mix(mix(A)), (0, 2)), (mix(mix(NONE), A), (0, 1)),
            (mix(mix(mix(NONE)), NONE), (0, 0)), (then(mix(A), mix(X)), (0, 1)), (then(mix(A), mix(mix(X), A)), (0, 2)),
            (mix(on(mix(A)), back(A)), (0, 2)), (mix(on(mix(NONE)), back(A)), (0, 1)), (then(on(on(A)), mix(A)), (0, 1)),
            (mix(mix(A), mix(X)), (0, 2)), (mix(mix(A), mix(mix(X))), (0, 3)), (on(on(then(A, NONE))), (2, 0)), (mix(on(on(A))), (0, 1)),
            (deep(60), (59, 0)), (deep(60, NONE), (0, 0)),
        ):
            self.assertEqual(level(("x",), weave), right, weave)

    def test_any_weave(self):
        for weave in many_weaves(541, XY, 6, 200):
            mixes = within_by_hand(weave, ("mix",))
            self.assertEqual(level(XY, weave), (0, mixes) if mixes else (within_by_hand(weave, ("on", "back")), 0))
            self.assertEqual(level(XY, weave)[1] == 0, is_of("scattered", XY, weave))
            self.assertEqual(level(XY, weave) == (0, 0), is_of("finite", XY, weave))

    def test_values_lie_in_their_lots(self):
        for reader in READERS[::3]:
            rows, mixes = levels(reader)
            for weave in many_weaves(542, reader[1], 5, 20):
                k, m = level(reader[1], weave)
                lot = rows[min(k, len(rows) - 1)] if m == 0 else mixes[min(m, len(mixes) - 1)]
                self.assertIn(value(reader[2], reader[1], reader[3], weave), lot)

    def test_errors_in_order(self):
        for bad in odd_values() + BAD_SCOPES:
            self.assertRaises(BadScope, level, bad, None)
        for bad in odd_values() + BAD_WEAVES:
            self.assertRaises(BadWeave, level, XY, bad)
        self.assertEqual(level(scope=(), weave=on(A)), (1, 0))
