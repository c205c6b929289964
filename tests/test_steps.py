"""[7], [8]: rules and roads."""

from itertools import permutations, product
from random import Random
from unittest import TestCase

from alongall.algebras import value
from alongall.errors import BadRoad, BadScope, BadWeave
from alongall.making import turned, without
from alongall.steps import gone, is_road, is_rule
from tests.odd import odd_values, spoiled
from tests.rules import is_row_by_hand, part_by_hand, paths_in, placed_in, rows_of_three, rules_from, some_road
from tests.samples import ALGEBRAS, A, NONE, THREES, X, Y, back, bush, many_weaves, mix, on, then
from tests.test_making import BAD_SCOPES, BAD_WEAVES, deep

XY = ("x", "y")
OA = on(A)


class Rules(TestCase):
    def test_each_row(self):
        weaves = [A, X, on(A), then(A, X), mix(X), NONE, back(then(X, A)), mix(A, NONE)]
        for e, f, g in permutations(weaves, 3):
            for word, pairs in rows_of_three(e, f, g).items():
                for one, other in pairs:
                    self.assertIs(is_rule(XY, one, other), True, (word, one, other))
                    self.assertIs(is_rule(XY, other, one), True, (word, one, other))

    def test_equal_weaves_in_rows(self):
        for e in (A, X, on(A), then(X, A), NONE, mix(A)):
            for word, pairs in rows_of_three(e, e, e).items():
                for one, other in pairs:
                    self.assertIs(is_rule(XY, one, other), True, (word, one, other))
                    self.assertIs(is_rule(XY, other, one), True, (word, one, other))

    def test_what_a_rule_tells_is_the_same(self):
        # Each pair that the words of the rows make; with one part made other it is a rule only if the values stay.
        algebras = [algebra for algebra in ALGEBRAS if algebra[1] <= 4] + list(THREES)
        for weave in many_weaves(100, ("x",), 3, 30):
            for other in rules_from(weave):
                self.assertIs(is_rule(("x",), weave, other), True)
                for path in paths_in(other):
                    for part in (A, X, NONE, on(A)):
                        bent = placed_in(other, path, part)
                        if is_rule(("x",), weave, bent):
                            for algebra in algebras:
                                for starts in ((0, 1), (1, 0), (1, 1), (algebra[1] - 1, 1)):
                                    self.assertEqual(
                                        value(algebra, ("x",), starts, weave), value(algebra, ("x",), starts, bent))

    def test_one_part_made_other(self):
        rules, others = 0, 0
        for e, f, g in ((A, X, on(A)), (X, X, A), (mix(A), A, NONE)):
            for word, pairs in rows_of_three(e, f, g).items():
                for one, other in pairs[:14]:
                    for path in paths_in(other):
                        for part in (A, X, NONE, on(A), back(X), e, f, mix(e), then(e, e)):
                            bent = placed_in(other, path, part)
                            right = is_row_by_hand(one, bent) or is_row_by_hand(bent, one)
                            self.assertIs(is_rule(XY, one, bent), right, (word, one, bent))
                            self.assertIs(is_rule(XY, bent, one), right, (word, one, bent))
                            rules, others = rules + right, others + (not right)
        self.assertGreater(rules, 300)
        self.assertGreater(others, 1500)

    def test_some_pairs(self):
        weaves = many_weaves(107, ("x",), 3, 60) + [NONE, A, X, on(A), mix(A), mix(A, NONE), mix(mix(A))]
        for one, other in product(weaves, repeat=2):
            right = is_row_by_hand(one, other) or is_row_by_hand(other, one)
            self.assertIs(is_rule(XY, one, other), right, (one, other))

    def test_no_rules(self):
        m = mix(A, X)
        for one, other in (
            (A, A), (A, X), (on(A), on(A)), (NONE, NONE), (then(NONE, A), NONE), (then(NONE, A), X), (on(A), NONE), (on(NONE), on(NONE)),
            (mix(NONE, A), A), (mix(NONE, A), mix(X)), (mix(NONE), mix(NONE)), (mix(NONE, A), NONE), (mix(A), A), (mix(NONE), A),
            (then(A, X), then(X, A)), (("then", ("then", A, X), Y), then(A, Y, X)), (("then", ("then", A, X), Y), then(X, A, Y)),
            (on(A), then(A, A)), (on(A), then(X, on(A))), (on(A), ("then", on(A), A)), (back(A), then(A, back(A))), (on(A), then(A, on(X))),
            (on(A), then(A, A, on(A))), (back(A), ("then", ("then", back(A), A), A)), (on(A), back(A)), (on(A), then(A, back(A))),
            (on(then(A, X)), then(A, on(then(A, X)))), (on(then(A, X)), then(X, on(then(X, A)))), (on(then(A, X)), on(then(X, A))),
            (back(then(A, X)), ("then", back(then(A, X)), X)), (back(then(A, X)), ("then", back(then(X, A)), A)),
            (back(then(A, X)), then(A, back(then(X, A)))), (on(then(A, X)), then(A, back(then(X, A)))),
            (on(A), on(A)), (on(A), on(("then", ("then", A, A), A))), (on(A), back(then(A, A))), (on(A), on(then(A, X))),
            (on(then(A, A)), on(then(A, A, A))), (on(A), on(then(A, A, X))), (on(then(A, A)), on(then(A, A, A, A))),
            (m, then(A, m)), (m, then(m, A)), (m, then(m, Y, m)), (m, on(then(A, m))), (m, back(then(m, A))), (m, on(then(m, Y))),
            (m, back(then(Y, m))), (m, ("then", ("then", m, A), m)), (m, then(m, m, m)), (m, on(on(m))), (m, on(A)), (m, mix(A, X)),
            (m, mix(A)), (m, mix(A, X, Y)), (m, mix(m, Y)), (m, mix(then(Y, m))), (m, mix(then(m, Y))), (m, mix(then(A, m, Y))),
            (m, mix(then(Y, m, A))), (m, mix(("then", ("then", A, m), A))), (m, mix(then(m, m))), (m, mix(m, then(A, X))), (m, mix(mix(m))),
            (m, mix(then(A, A, m))), (m, mix(on(m))), (m, mix(then(m, A), Y)), (m, m), (m, X), (m, mix(mix(A), X)), (mix(A), mix(X)),
        ):
            self.assertIs(is_rule(XY, one, other), False, (one, other))
            self.assertIs(is_rule(XY, other, one), False, (one, other))

    def test_times_of_many(self):
        for many in (2, 3, 10, 50):
            for way in (on, back):
                self.assertIs(is_rule((), way(A), way(then(*[A] * many))), True)
                self.assertIs(is_rule(("x",), way(A), way(then(*[A] * many + [X]))), False)
                self.assertIs(is_rule((), way(then(*[A] * many)), way(A)), True)
        row = then(A, A)
        self.assertIs(is_rule((), on(row), on(then(row, row))), True)
        self.assertIs(is_rule((), on(row), on(then(A, A, A, A))), False)
        self.assertIs(is_rule((), on(row), on(A)), True)

    def test_nest_of_each_form(self):
        m = mix(A, on(X))
        c, d = m[1]
        forms = [m, ("then", c, m), ("then", d, m), ("then", m, c), ("then", m, d)]
        forms += [then(first, m, last) for first in (c, d) for last in (c, d)]
        for mask in range(1, 1 << len(forms)):
            chosen = [form for at, form in enumerate(forms) if mask >> at & 1]
            for beside in ((), (c,), (d,), (c, d)):
                self.assertIs(is_rule(XY, mix(*chosen, *beside), m), True)
            if mask % 16 == 5:
                for other in (X, Y, NONE, on(A), then(Y, m), then(m, m), mix(m), on(m)):
                    self.assertIs(is_rule(XY, mix(*chosen, other), m), False)

    def test_mixes_of_mixes(self):
        inner = mix(A)
        whole = mix(inner, A)
        self.assertIs(is_rule((), whole, inner), True)
        self.assertIs(is_rule((), mix(whole, inner), whole), True)
        self.assertIs(is_rule((), mix(whole, A, inner), whole), True)
        self.assertIs(is_rule((), mix(whole, A), inner), False)

    def test_errors_in_order(self):
        for bad in odd_values() + BAD_SCOPES:
            self.assertRaises(BadScope, is_rule, bad, None, None)
            self.assertRaises(BadScope, is_road, bad, None, None, None)
            self.assertRaises(BadScope, gone, bad, None, None)
        for bad in odd_values() + BAD_WEAVES:
            self.assertRaises(BadWeave, is_rule, XY, bad, A)
            self.assertRaises(BadWeave, is_rule, XY, A, bad)
            self.assertRaises(BadWeave, is_road, XY, bad, A, ())
            self.assertRaises(BadWeave, is_road, XY, A, bad, ())
            self.assertRaises(BadWeave, gone, XY, bad, None)
        self.assertTrue(is_rule(scope=(), one=on(A), other=then(A, on(A))))


class Roads(TestCase):
    def test_example_by_hand(self):
        # [8]
        self.assertIs(is_road((), OA, then(A, OA), (((), then(A, OA)),)), True)
        self.assertEqual(gone((), OA, (((), then(A, OA)),)), then(A, OA))

    def test_by_hand(self):
        for one, other, road in (
            (A, A, ()), (then(OA, OA), then(OA, A, OA), (((1,), then(A, OA)),)), (mix(A, OA), mix(A, then(A, OA)), (((1,), then(A, OA)),)),
            (then(A, OA), OA, (((), OA),)), (then(A, A, OA), OA, (((1,), OA), ((), OA))),
            (mix(OA, then(A, OA)), mix(OA), (((1,), OA),)), (mix(OA, then(A, OA)), mix(then(A, OA)), (((0,), then(A, OA)),)),
            (on(then(A, OA)), on(OA), (((0,), OA),)), (then(mix(A), A, mix(A)), mix(A), (((), mix(A)),)),
        ):
            self.assertIs(is_road((), one, other, road), True, (one, other))
            self.assertEqual(gone((), one, road), other)
            self.assertIs(is_road((), one, then(other, NONE), road), False)

    def test_some_roads(self):
        random = Random(101)
        for weave in many_weaves(102, XY, 4, 60):
            road, end = some_road(random, weave, random.randrange(5))
            self.assertEqual(gone(XY, weave, road), end)
            self.assertIs(is_road(XY, weave, end, road), True)
            other = then(end, NONE)
            self.assertIs(is_road(XY, weave, other, road), False)
            self.assertIs(is_road(XY, weave, other, road + (((), other),)), True)
            for algebra in ALGEBRAS[:5] + THREES[:4]:
                starts = (1, 0, algebra[1] - 1, 1)
                self.assertEqual(value(algebra, XY, starts, weave), value(algebra, XY, starts, end))

    def test_turned_and_without_marks(self):
        # They turn, and lose marks, alike: the words stay the same.
        random = Random(103)
        for weave in many_weaves(104, XY, 4, 40):
            end = some_road(random, weave, 3)[1]
            for algebra in ALGEBRAS[:3] + THREES[3:6]:
                starts = (1, 0, algebra[1] - 1, 1)
                self.assertEqual(
                    value(algebra, XY, starts, turned(XY, weave)), value(algebra, XY, starts, turned(XY, end)))
                self.assertEqual(
                    value(algebra, ("y",), starts[:2], without(XY, weave, ("x",))),
                    value(algebra, ("y",), starts[:2], without(XY, end, ("x",))))

    def test_roads_lead_back(self):
        random = Random(105)
        for weave in many_weaves(106, XY, 4, 60, ("letter", "then", "on", "back", "none")):
            steps, here = [], weave
            for _ in range(4):
                path = random.choice(paths_in(here))
                part = random.choice([part for part in rules_from(part_by_hand(here, path)) if part[0] != "mix"])
                steps.append((path, part_by_hand(here, path)))
                here = placed_in(here, path, part)
            self.assertIs(is_road(XY, here, weave, tuple(steps[::-1])), True)

    def test_places_in_mixes_change(self):
        # The part put in may get another place.
        m = mix(A, X, then(A, X))
        self.assertEqual(gone(XY, m, (((0,), then(NONE, A)),)), mix(X, then(A, X), then(NONE, A)))
        self.assertEqual(gone(XY, m, (((0,), then(NONE, A)), ((2,), A))), m)
        self.assertRaises(BadRoad, gone, XY, m, (((0,), then(NONE, A)), ((0,), A)))

    def test_steps_that_cannot_be_gone(self):
        weave = then(OA, mix(A, X))
        for step in (
            ((), weave), ((0,), OA), ((0,), then(A, A)), ((2,), OA), ((0, 1), A), ((0,), then(X, OA)), ((1, 2), A), ((1,), mix(A)),
            ((True,), then(A, OA)), ([0], then(A, OA)), [(0,), then(A, OA)], ((0,),), ((0,), then(A, OA), None), ((0,), None),
            ((0,), ["then", A, OA]), (0, then(A, OA)), ((0,), ("then", A, ("on", ("letter", ("z",))))), ((0, 0, 0), A), None, (), 0,
            ((0,), ("then", OA, NONE, NONE)),
        ):
            for road in ((step,), (((0,), then(A, OA)), ((0,), OA), step), (step, ((0,), OA))):
                self.assertIs(is_road(XY, weave, weave, road), False, step)
                self.assertRaises(BadRoad, gone, XY, weave, road)
        for road in odd_values() + [[], [((0,), then(A, OA))], ((0,), then(A, OA)), 0, "", None] + list(spoiled((((0,), then(A, OA)),))):
            self.assertIs(is_road(XY, weave, then(then(A, OA), mix(A, X)), road), False, road)
            self.assertRaises(BadRoad, gone, XY, weave, road)
        self.assertIs(is_road(XY, weave, ("then", then(A, OA), mix(A, X)), (((0,), then(A, OA)),)), True)

    def test_what_would_be_no_weave(self):
        whole = ("then", bush(199), on(bush(199)))
        self.assertRaises(BadRoad, gone, (), whole, (((1,), then(bush(199), on(bush(199)))),))
        self.assertRaises(BadRoad, gone, (), deep(60), (((0,) * 59, then(NONE, A)),))
        self.assertEqual(gone((), deep(59), (((0,) * 58, then(NONE, A)),)), deep(59, then(NONE, A)))
        self.assertIs(is_road((), deep(60), deep(60), (((0,) * 59, then(NONE, A)), ((0,) * 59, A))), False)

    def test_all_pairs_of_small_weaves(self):
        small = [NONE, A, on(A), back(A), mix(A), mix(NONE), on(NONE), mix(A, NONE), then(A, A), then(A, NONE), then(NONE, A)]
        for one, other in product(small, repeat=2):
            right = other in rules_from(one) or one in rules_from(other) or (one, other) in (
                (on(NONE), NONE), (NONE, on(NONE)), (mix(NONE), NONE), (NONE, mix(NONE)))
            self.assertIs(is_rule((), one, other), right, (one, other))
            self.assertIs(is_road((), one, other, (((), other),)), right)

    def test_long_roads(self):
        there_and_back = (((), then(A, OA)), ((), OA))
        self.assertEqual(gone((), OA, there_and_back * 500), OA)
        self.assertIs(is_road(scope=(), one=OA, other=OA, thing=there_and_back * 500), True)
        self.assertEqual(gone(scope=(), weave=OA, road=()), OA)
