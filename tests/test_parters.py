"""[52]: plans of the parter."""

from itertools import product
from unittest import TestCase

from alongall.errors import BadDepth, BadScope, BadWeave
from alongall.parters import is_parter, parter
from alongall.views import alike_to, view
from alongall.weaves import spelled
from tests.odd import Strange, odd_values, spoiled
from tests.samples import A, NONE, X, Y, back, letters_by_hand, many_weaves, mix, on, then
from tests.test_making import BAD_SCOPES, BAD_WEAVES
from tests.test_views import BAD_DEPTHS, V, row, row_view

XY = ("x", "y")


def is_plan(one, other, thing):
    """[52] by its words, for two views of one depth."""
    side, triple, replies = thing
    views = (one, other)
    if one == other or triple not in views[side]:
        return False
    answers = [reply for reply in views[1 - side] if reply[1] == triple[1]]
    if len(replies) != len(answers):
        return False
    for answer, (way, plan) in zip(answers, replies):
        at = {"left": 0, "right": 2}[way]
        first, second = (triple, answer) if side == 0 else (answer, triple)
        if not is_plan(first[at], second[at], plan):
            return False
    return True


def wins(one, other, plan, depth):
    """Whether the parter wins by the plan, whatever the copier does, on two rows of letters."""
    side, triple, replies = plan
    rows = (one, other)
    for at, letter in enumerate(rows[side]):
        if (row_view(rows[side][:at], depth - 1), letter, row_view(rows[side][at + 1:], depth - 1)) == triple:
            break
    else:
        return False
    answers = [answer for answer in row_view(rows[1 - side], depth) if answer[1] == triple[1]]
    for reply, letter in enumerate(rows[1 - side]):
        if letter != triple[1]:
            continue
        answer = (row_view(rows[1 - side][:reply], depth - 1), letter, row_view(rows[1 - side][reply + 1:], depth - 1))
        way, rest = replies[answers.index(answer)]
        cut = slice(None, at) if way == "left" else slice(at + 1, None)
        cut_too = slice(None, reply) if way == "left" else slice(reply + 1, None)
        mine, yours = rows[side][cut], rows[1 - side][cut_too]
        first, second = (mine, yours) if side == 0 else (yours, mine)
        if not wins(first, second, rest, depth - 1):
            return False
    return True


def other_plans(one, other):
    """All plans for two views of a small depth."""
    found = []
    for side, views in ((0, (one, other)), (1, (other, one))):
        for triple in views[0]:
            answers = [answer for answer in views[1] if answer[1] == triple[1]]
            rows = []
            for answer in answers:
                ways = []
                for way, at in (("left", 0), ("right", 2)):
                    first, second = (triple, answer) if side == 0 else (answer, triple)
                    if first[at] != second[at]:
                        ways.extend((way, plan) for plan in other_plans(first[at], second[at]))
                rows.append(ways)
            found.extend((side, triple, replies) for replies in product(*rows))
    return found


class Parter(TestCase):
    def check(self, scope, one, other, depth):
        told = parter(scope, one, other, depth)
        self.assertEqual(told is None, alike_to(scope, one, other, depth))
        if told is not None:
            self.assertTrue(is_plan(view(scope, one, depth), view(scope, other, depth), told))
            self.assertIs(is_parter(scope, one, other, depth, told), True)
        return told

    def test_example_by_hand(self):
        # [57]
        one, other = on(A), then(on(A), A)
        hers = (1, (V, (), ()), (("right", (0, ((), (), ()), ())), ("right", (0, ((), (), ()), ()))))
        self.assertIs(is_parter((), one, other, 2, hers), True)
        self.check((), one, other, 2)
        self.assertIsNone(parter((), one, other, 1))

    def test_all_plans(self):
        for one, other in ((on(A), then(on(A), A)), (row(1), row(2)), (row(2), row(4)), (on(A), back(A)), (NONE, mix(A))):
            views = view((), one, 2), view((), other, 2)
            plans = other_plans(*views)
            self.assertGreater(len(plans), 0)
            for plan in plans:
                self.assertTrue(is_plan(*views, plan))
                self.assertIs(is_parter((), one, other, 2, plan), True)
            self.assertIn(parter((), one, other, 2), plans)

    def test_no_replies(self):
        # The letter stands nowhere in the other word: unlike views of depth 1.
        for one, other, side in ((X, A, None), (NONE, X, 1), (then(X, A), A, 0), (on(A), mix(A, X), 1)):
            told = self.check(("x",), one, other, 1)
            self.assertEqual(told[1][0::2] + told[2], ((), ()))
            if side is not None:
                self.assertEqual(told[0], side)
        self.assertIs(is_parter(("x",), A, X, 1, (0, ((), (), ()), ())), True)
        self.assertIs(is_parter(("x",), A, X, 1, (1, ((), ("x",), ()), ())), True)
        self.assertIs(is_parter(("x",), A, X, 1, (1, ((), (), ()), ())), False)
        self.assertIs(is_parter(("x",), A, then(X, A), 1, (0, ((), (), ()), ())), False)

    def test_short_words_against_every_copier(self):
        won = 0
        for scope, longest in (((), 7), (("x",), 3), (XY, 2)):
            weaves = [then(*[("letter", letter) for letter in letters]) if letters else NONE
                      for many in range(longest + 1) for letters in product(letters_by_hand(scope), repeat=many)]
            for one, other in list(product(weaves, repeat=2))[::3 if scope else 1]:
                for depth in range(4):
                    told = self.check(scope, one, other, depth)
                    if told is not None:
                        self.assertTrue(wins(spelled(scope, one), spelled(scope, other), told, depth))
                        won += 1
        self.assertGreater(won, 300)

    def test_any_words(self):
        for scope in ((), ("x",), XY):
            weaves = many_weaves(590, scope, 4, 10)
            for one, other in product(weaves, repeat=2):
                for depth in range(3):
                    self.check(scope, one, other, depth)
            for one, other in product(many_weaves(591, scope, 3, 6), repeat=2):
                self.check(scope, one, other, 3)

    def test_errors_in_order(self):
        for function in (parter, lambda *parts: is_parter(*parts, None)):
            for bad in odd_values() + BAD_SCOPES:
                self.assertRaises(BadScope, function, bad, None, None, None)
            for bad in odd_values() + BAD_WEAVES:
                self.assertRaises(BadWeave, function, XY, bad, None, None)
                self.assertRaises(BadWeave, function, XY, A, bad, None)
            for bad in odd_values() + BAD_DEPTHS + [4, 6]:
                self.assertRaises(BadDepth, function, XY, A, A, bad)
        self.assertIsNone(parter(scope=(), one=A, other=on(A), depth=0))
        self.assertIs(is_parter(scope=(), one=A, other=NONE, depth=1, thing=(0, ((), (), ()), ())), True)


class IsParter(TestCase):
    def test_any_value(self):
        for one, other, depth in ((on(A), then(on(A), A), 2), (row(2), row(3), 2), (then(X, Y), then(Y, X), 2), (row(4), row(5), 3)):
            plan = parter(XY, one, other, depth)
            for thing in odd_values() + list(spoiled(plan)) + [plan + ((),), plan[:2], list(plan), None, (True,) + plan[1:], (2,) + plan[1:]]:
                self.assertIs(is_parter(XY, one, other, depth, thing), False)
            for alike in (0, 1):
                self.assertIs(is_parter(XY, one, one, depth, plan), False)
                self.assertIs(is_parter(XY, one, other, alike, plan), False)
            self.assertIs(is_parter(XY, one, other, depth, (0, Strange(), ())), False)

    def test_replies(self):
        one, other = row(2), row(5)
        side, triple, replies = plan = parter((), one, other, 2)
        self.assertGreater(len(replies), 0)
        for thing in (
            (side, triple, replies[:-1]), (side, triple, replies + replies[-1:]), (side, triple, replies[1:] + replies[:1]), (1 - side, triple, replies),
            (side, triple, ()), (side, triple, replies[0]), (side, ((), (), ()), replies), (side, (), replies), (side, triple, list(replies)),
        ):
            views = view((), one, 2), view((), other, 2)
            try:
                right = is_plan(*views, thing) and isinstance(thing[2], tuple)
            except (TypeError, ValueError, KeyError):
                right = False
            self.assertIs(is_parter((), one, other, 2, thing), right, thing)
        for at, (way, rest) in enumerate(replies):
            for new in ("left", "right", "up", "", None, 0, ("left",)):
                thing = (side, triple, replies[:at] + ((new, rest),) + replies[at + 1:])
                views = view((), one, 2), view((), other, 2)
                right = new in ("left", "right") and is_plan(*views, thing)
                self.assertIs(is_parter((), one, other, 2, thing), right)
        self.assertIs(is_parter((), one, other, 2, plan), True)
        self.assertIs(is_parter((), other, one, 2, plan), False)
        # A letter that only one word has, each of its names odd by itself.
        self.assertIs(is_parter(("x",), on(X), on(A), 1, (0, ((), ("x",), ()), ())), True)
        self.assertIs(is_parter(("x",), on(X), on(A), 1, (0, ((), ["x"], ()), ())), False)
        self.assertIs(is_parter(("x",), mix(X), back(A), 1, (0, ((), "x", ()), ())), False)
