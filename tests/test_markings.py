"""[23]: marks put on places such that a word gets a value."""

from random import Random
from unittest import TestCase

from alongall.algebras import value
from alongall.errors import BadAlgebra, BadElement, BadName, BadScope, BadStarts, BadWeave, TooMany
from alongall.laying import gathered
from alongall.lots import values_of
from alongall.making import without
from alongall.markings import is_marking, marked_values, marking
from alongall.steps import is_road
from alongall.values import is_on_paper, on_of
from alongall.weaves import is_weave, size
from tests.odd import odd_values, spoiled
from tests.rules import road_to, some_road
from tests.samples import (
    A, ALGEBRAS, NONE, SMALL_ALGEBRAS, THREES, X, back, borne, bush, led, letters_by_hand, many_weaves, mix, on, ordered, tallied, then,
)
from tests.test_algebras import BREAKS_ONE
from tests.test_making import BAD_SCOPES, deep

T = tallied(2)
M = mix(A)
COUNT = (T, ("x",), (0, 1), "x")


def lots_of_starts(scope, starts, name):
    """The lots of the FACT."""
    letters = letters_by_hand(scope)
    found = []
    for letter in letters_by_hand(tuple(other for other in scope if other != name)):
        found.append(tuple(sorted({starts[letters.index(letter)], starts[letters.index(tuple(sorted(letter + (name,))))]})))
    return tuple(found)


def alike_weaves(weave):
    """Weaves that tell the same word."""
    found = [weave, then(weave, NONE), then(NONE, weave)]
    if weave[0] == "on":
        found += [then(weave[1], weave), on(then(weave[1], weave[1])), then(weave[1], weave[1], weave)]
    if weave[0] == "back":
        found += [("then", weave, weave[1]), back(then(weave[1], weave[1]))]
    if weave[0] == "mix":
        found += [then(weave, weave), on(weave), back(weave), mix(weave), mix(weave, *weave[1]), then(weave, weave[1][0], weave)]
    return found


class Markings(TestCase):
    def check(self, algebra, scope, starts, name, weave):
        """Each value has a marking exactly if it is told; what is told is right by the document's words."""
        inside = marked_values(algebra, scope, starts, name, weave)
        rest = tuple(other for other in scope if other != name)
        self.assertEqual(inside, values_of(algebra, rest, lots_of_starts(scope, starts, name), weave))
        for element in range(algebra[1]):
            told = marking(algebra, scope, starts, name, weave, element)
            self.assertEqual(told is not None, element in inside, (algebra, scope, starts, name, weave, element))
            if told is not None:
                marked, road = told
                self.assertTrue(is_weave(scope, marked))
                self.assertEqual(value(algebra, scope, starts, marked), element)
                self.assertTrue(is_road(rest, without(scope, marked, (name,)), weave, road))
                for other in range(algebra[1]):
                    self.assertIs(is_marking(algebra, scope, starts, name, weave, other, told), other == element)

    def test_example_by_hand(self):
        self.assertEqual(marked_values(*COUNT, M), (0, 1, 2))
        told = (then(M, X, M), (((), M),))
        self.assertIs(is_marking(*COUNT, M, 1, told), True)
        self.assertIs(is_marking(*COUNT, M, 2, told), False)
        self.assertEqual(on_of(T, (0, 1)), (0, 1, 2))
        self.assertTrue(is_on_paper(T, (0, 1), 1, ((1,), (0,))))
        self.check(*COUNT, M)

    def test_small_weaves_by_hand(self):
        for weave, right in (
            (NONE, (0,)), (A, (0, 1)), (then(A, A), (0, 1, 2)), (on(A), (0, 1, 2)), (back(A), (0, 1, 2)), (on(NONE), (0,)),
            (mix(NONE), (0,)), (mix(NONE, A), (0, 1, 2)), (on(on(A)), (0, 1, 2)), (then(NONE, A), (0, 1)), (mix(on(A), back(A)), (0, 1, 2)),
        ):
            self.assertEqual(marked_values(*COUNT, weave), right)
            self.check(*COUNT, weave)
        self.assertIsNone(marking(*COUNT, NONE, 1))
        self.assertIsNone(marking(*COUNT, A, 2))
        self.assertEqual(marking(*COUNT, A, 1), (X, ()))
        self.assertEqual(marking(*COUNT, A, 0), (A, ()))

    def test_small_algebras(self):
        random = Random(110)
        for algebra in SMALL_ALGEBRAS + THREES:
            for scope, name in ((("x",), "x"), (("a", "x"), "x"), (("x", "y"), "x"), (("a", "x", "y"), "x")):
                starts = tuple(random.randrange(algebra[1]) for _ in range(1 << len(scope)))
                rest = tuple(other for other in scope if other != name)
                for weave in many_weaves(random.randrange(10 ** 6), rest, 4, 4):
                    self.check(algebra, scope, starts, name, weave)

    def test_each_name(self):
        for name in ("a", "m", "z"):
            scope = ("a", "m", "z")
            starts = tuple(2 if letter == (name,) else 0 for letter in letters_by_hand(scope))
            rest = tuple(other for other in scope if other != name)
            for weave in (on(A), mix(A, ("letter", rest)), then(("letter", rest[:1]), back(A))):
                self.check(borne(2), scope, starts, name, weave)

    def test_large_algebras(self):
        random = Random(111)
        for algebra in ALGEBRAS:
            if algebra[1] > 5:
                for weave in many_weaves(112, ("y",), 3, 6):
                    starts = tuple(random.randrange(algebra[1]) for _ in range(4))
                    self.check(algebra, ("x", "y"), starts, "x", weave)

    def test_mixes_within_mixes(self):
        for algebra in (T, led(2), ordered(), borne(2)) + THREES[4:9]:
            for starts in ((0, 1), (1, 2), (2, 0), (algebra[1] - 1, 1)):
                for weave in (mix(M), mix(A, M), on(mix(A, on(A))), mix(then(A, M), back(A)), mix(mix(A, NONE), on(M)), back(on(mix(M, A)))):
                    self.check(algebra, ("x",), starts, "x", weave)

    def test_parts_that_tell_one_word(self):
        random = Random(113)
        for algebra in (T, led(1), led(2), ordered()) + THREES[::3]:
            for weave in (on(A), back(A), M, on(then(A, A)), then(A, on(A)), mix(A, on(A))):
                for _ in range(4):
                    parts = random.sample(alike_weaves(weave), min(3, len(alike_weaves(weave))))
                    starts = (random.randrange(algebra[1]), random.randrange(algebra[1]))
                    self.check(algebra, ("x",), starts, "x", mix(*parts))

    def test_parts_that_would_fall_together_on_the_way(self):
        # Three marked parts, the roads of which cross: what each leads to must come out.
        oa = on(A)
        one = (then(X, oa), then(A, oa), [((), oa)])
        two = (then(A, X, on(X)), then(A, A, oa), [((1,), oa)])
        three = (X, A, [])
        for laid, targets in (
            ([one, two], [oa, then(A, oa)]), ([two, one], [then(A, oa), oa]), ([one, two, three], [oa, then(A, oa), A]),
            ([(on(X), oa, []), one], [oa, oa]), ([(then(A, on(X)), then(A, oa), []), one], [then(A, oa), oa]),
            ([one, (then(A, on(X)), then(A, oa), [])], [oa, then(A, oa)]),
            ([(on(X), oa, [((), then(A, oa))]), one], [then(A, oa), oa]),
            ([one, (on(X), oa, [((), then(A, oa))]), (then(X, X, oa), then(A, A, oa), [])], [oa, then(A, oa), then(A, A, oa)]),
        ):
            marked, bare, road = gathered(laid, targets)
            self.assertEqual(without(("x",), marked, ("x",)), bare)
            self.assertTrue(is_road((), bare, mix(*targets), tuple(road)), (laid, targets))

    def test_gathered_from_anywhere(self):
        random = Random(116)
        for base in many_weaves(117, ("x",), 3, 400):
            targets = [some_road(random, base, random.randrange(3))[1] for _ in range(random.randrange(2, 5))]
            starts = [road_to(random, target, random.randrange(4)) for target in targets]
            laid = [(start, start, road) for start, road in starts]
            if sum(size(("x",), start) for start, _ in starts) < 200:
                marked, bare, road = gathered(laid, targets)
                self.assertEqual(marked, bare)
                self.assertTrue(is_road(("x",), bare, mix(*targets), tuple(road)), (laid, targets))

    def test_fact_of_values(self):
        random = Random(114)
        for algebra in ALGEBRAS:
            starts = tuple(random.randrange(algebra[1]) for _ in range(4))
            for weave in many_weaves(115, ("y",), 5, 5):
                self.assertEqual(
                    marked_values(algebra, ("x", "y"), starts, "x", weave),
                    values_of(algebra, ("y",), lots_of_starts(("x", "y"), starts, "x"), weave))

    def test_long_words(self):
        row = then(*[A] * 30)
        for element in range(3):
            told = marking(*COUNT, row, element)
            self.assertEqual(size(("x",), told[0]), 59)
        for weave in (bush(399), on(bush(185)), mix(bush(31), on(bush(29)))):
            self.check(*COUNT, weave)

    def test_just_four_hundred_nodes(self):
        whole = on(bush(399))
        self.assertEqual(marking(*COUNT, whole, 0), (whole, ()))
        self.assertEqual(marking(*COUNT, whole, 2)[1], ())
        row = then(bush(199), on(bush(99)))
        self.assertEqual(size((), row), 300)
        marked, road = marking(*COUNT, then(row, bush(99)), 1)
        self.assertEqual(size(("x",), marked), 400)
        self.assertTrue(is_marking(*COUNT, then(row, bush(99)), 1, (marked, road)))

    def test_too_many(self):
        # Just one place is marked in what goes on: one copy more is needed, or three.
        for weave in (on(bush(301)), mix(bush(201)), deep(60), deep(59, back(A))):
            told = []
            for element in (0, 1, 2):
                try:
                    told.append(marking(*COUNT, weave, element) is not None)
                except TooMany as wrong:
                    self.assertEqual(wrong.most, 400)
                    told.append(None)
            self.assertEqual(told, [True, None, True])
            self.assertEqual(marked_values(*COUNT, weave), (0, 1, 2))
        self.assertIsNone(marking(tallied(3), ("x",), (0, 2), "x", deep(60), 1))

    def test_bent_markings(self):
        road = (((), M),)
        right = (then(M, X, M), road)
        for thing in odd_values() + list(spoiled(right)) + [
            (), right[:1], right + (None,), list(right), (then(M, X, M), ()), (then(M, A, M), road), (M, ()), (mix(X), ()),
            (then(M, X, M), list(road)), (then(M, X, M), road + road), (then(X, M), road), (then(M, X, M), (((), mix(X)),)),
            (then(M, ("letter", ("y",)), M), road), (then(M, X, X, M), road), (road, then(M, X, M)), (None, road),
            (then(M, X, M), (((), M), None)), (then(M, X, M), ((1, M),)),
        ]:
            self.assertIs(is_marking(*COUNT, M, 1, thing), False, thing)
        self.assertIs(is_marking(*COUNT, M, 1, right), True)
        self.assertIs(is_marking(*COUNT, M, 0, (M, ())), True)
        self.assertIs(is_marking(*COUNT, M, 2, (mix(X), ())), True)
        self.assertIs(is_marking(*COUNT, M, 2, (mix(A, X), ())), True)
        self.assertIs(is_marking(*COUNT, then(M, A), 1, (then(M, X), ())), True)

    def test_errors_in_order(self):
        for ask, more in ((marking, (None,)), (is_marking, (None, None)), (marked_values, ())):
            for bad in odd_values() + list(BREAKS_ONE):
                self.assertRaises(BadAlgebra, ask, bad, None, None, None, None, *more)
            for bad in odd_values() + BAD_SCOPES:
                self.assertRaises(BadScope, ask, T, bad, None, None, None, *more)
            for bad in odd_values() + [(0,), (0, 1, 1), (0, 3), [0, 1], (0, True), (0, -1), ((0,), (1,))]:
                self.assertRaises(BadStarts, ask, T, ("x",), bad, None, None, *more)
            for bad in odd_values() + ["y", "", ("x",), 0]:
                self.assertRaises(BadName, ask, T, ("x",), (0, 1), bad, None, *more)
            for bad in odd_values() + [X, then(A, X), ("mix", ()), ["none"], ("letter", ("y",))]:
                self.assertRaises(BadWeave, ask, T, ("x",), (0, 1), "x", bad, *more)
            self.assertRaises(BadName, ask, T, (), (0,), "x", None, *more)
        for bad in odd_values() + [3, -1, True, False, "0", (0,), 0.0]:
            self.assertRaises(BadElement, marking, *COUNT, on(bush(301)), bad)
            self.assertRaises(BadElement, is_marking, *COUNT, M, bad, None)
        told = marking(algebra=T, scope=("x",), starts=(0, 1), name="x", weave=M, element=1)
        self.assertTrue(is_marking(algebra=T, scope=("x",), starts=(0, 1), name="x", weave=M, element=1, thing=told))
        self.assertEqual(marked_values(algebra=T, scope=("x",), starts=(0, 1), name="x", weave=M), (0, 1, 2))
