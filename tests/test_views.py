"""[51], [57]: views of words."""

from itertools import product
from random import Random
from unittest import TestCase

from alongall.errors import BadDepth, BadScope, BadWeave
from alongall.making import part_at, with_part
from alongall.spots import cut
from alongall.views import alike_to, least_depth, view
from alongall.weaves import size, written
from tests.odd import odd_values
from tests.rules import paths_in
from tests.samples import A, NONE, X, Y, back, letters_by_hand, many_weaves, mix, on, spots_by_hand, then, turned_by_hand
from tests.test_making import BAD_SCOPES, BAD_WEAVES

XY = ("x", "y")
BAD_DEPTHS = [-1, True, False, 1.0, "1", None, (1,), 10 ** 20]
V = (((), (), ()),)


def row_view(row, depth):
    """The view of a row of letters."""
    if depth == 0:
        return ()
    return tuple(sorted({
        (row_view(row[:at], depth - 1), letter, row_view(row[at + 1:], depth - 1)) for at, letter in enumerate(row)}))


def slow_view(scope, weave, depth, known):
    """The view of a word, by going to the places of all spots with numbers up to 7."""
    if depth == 0:
        return ()
    if (weave, depth) not in known:
        found = set()
        for spot in spots_by_hand(weave, 2 ** (depth - 1) - 1):
            ahead, letter, behind = cut(scope, weave, spot)
            found.add((slow_view(scope, ahead, depth - 1, known), letter, slow_view(scope, behind, depth - 1, known)))
        known[(weave, depth)] = tuple(sorted(found))
    return known[(weave, depth)]


def row(many, letter=A):
    """So many places in a row, not deep."""
    if many < 2:
        return letter if many else NONE
    return ("then", row(many // 2, letter), row(many - many // 2, letter))


class View(TestCase):
    def test_examples_by_hand(self):
        # [57]
        self.assertEqual(view((), on(A), 0), ())
        self.assertEqual(view((), on(A), 1), V)
        self.assertEqual(view((), on(A), 2), (((), (), V), (V, (), V)))
        self.assertEqual(view((), then(on(A), A), 2), (((), (), V), (V, (), ()), (V, (), V)))
        self.assertEqual(view((), NONE, 3), ())
        self.assertEqual(view(("x",), then(X, A), 1), (((), (), ()), ((), ("x",), ())))
        self.assertEqual(view((), mix(A), 2), ((V, (), V),))

    def test_short_words(self):
        for scope in ((), ("x",), XY, ("x", "y", "z")):
            letters = letters_by_hand(scope)
            rows = [row for many in range(6) for row in product(letters, repeat=many)]
            for letters_ in Random(580).sample(rows, min(len(rows), 60)):
                for depth in range(4):
                    self.assertEqual(view(scope, written(scope, letters_), depth), row_view(letters_, depth))

    def test_endless_words(self):
        known = {}
        for scope in ((), ("x",), XY):
            for weave in many_weaves(581, scope, 4, 40) + [on(on(A)), on(back(A)), mix(on(A), A), on(mix(A)), back(then(A, mix(A)))]:
                for depth in (1, 2):
                    self.assertEqual(view(scope, weave, depth), slow_view(scope, weave, depth, known), weave)

    def test_depth_three(self):
        for scope in ((), ("x",)):
            known = {}
            for weave in many_weaves(582, scope, 3, 20) + [
                    on(A), back(A), mix(A), on(then(X, A)) if scope else on(on(A)), then(on(A), back(A)), mix(A, on(A)), on(back(A))]:
                self.assertEqual(view(scope, weave, 3), slow_view(scope, weave, 3, known), weave)

    def test_errors_in_order(self):
        for bad in odd_values() + BAD_SCOPES:
            self.assertRaises(BadScope, view, bad, None, None)
        for bad in odd_values() + BAD_WEAVES:
            self.assertRaises(BadWeave, view, XY, bad, None)
        for bad in odd_values() + BAD_DEPTHS + [4]:
            self.assertRaises(BadDepth, view, XY, A, bad)
        self.assertEqual(view(scope=XY, weave=A, depth=1), V)


class Alike(TestCase):
    def test_rows_of_one_letter(self):
        for depth in range(7):
            most = 2 ** depth - 1
            for one in {0, 1, most // 2, most - 1, most, most + 1} - {-1}:
                for other in {0, 1, most - 2, most - 1, most, most + 1, most + 7} - {-1, -2}:
                    right = one == other or min(one, other) >= most
                    self.assertIs(alike_to((), row(one), row(other), depth), right, (one, other, depth))
                    self.assertIs(alike_to(("x",), row(one, X), row(other, X), depth), right)

    def test_least_depth_of_rows(self):
        for one in range(20):
            for other in range(20):
                told = least_depth((), row(one), row(other), 6)
                right = next((depth for depth in range(7) if one != other and min(one, other) < 2 ** depth - 1), None)
                self.assertEqual(told, right)
        for most in range(7):
            self.assertEqual(least_depth((), row(30), row(31), most), 5 if most >= 5 else None)

    def test_endless_beside_rows(self):
        for depth in range(6):
            self.assertFalse(alike_to((), on(A), row(40), depth) and depth > 1)
        self.assertEqual(least_depth((), on(A), row(5), 6), 2)
        self.assertEqual(least_depth((), on(A), then(on(A), A), 6), 2)
        self.assertEqual(least_depth((), on(A), back(A), 6), 2)
        self.assertEqual(least_depth((), then(on(A), back(A)), row(40), 6), 6)
        self.assertEqual(least_depth((), then(on(A), back(A)), row(70), 6), None)
        self.assertEqual(least_depth((), mix(A), on(A), 6), 2)
        self.assertEqual(least_depth((), mix(A), then(back(A), on(A)), 6), 3)
        self.assertEqual(least_depth((), NONE, A, 6), 1)
        self.assertEqual(least_depth(("x",), X, A, 6), 1)
        self.assertEqual(least_depth((), on(A), on(A), 6), None)
        self.assertEqual(least_depth((), on(on(A)), on(A), 6), 3)

    def test_on_and_back_between(self):
        # The second FACT of [57].
        for weave in many_weaves(583, ("x",), 3, 12) + [A, then(X, A), on(A), back(X)]:
            one, other = on(weave), then(on(weave), back(weave), on(weave))
            for depth in range(4):
                self.assertTrue(alike_to(("x",), one, other, depth))
            self.assertIsNone(least_depth(("x",), on(A), then(on(A), back(A), on(A)), 6))

    def test_mixes_are_dense(self):
        # The third FACT of [57].
        for weave in many_weaves(584, XY, 3, 30):
            whole = mix(weave, X)
            for part in (weave, X):
                self.assertIsNone(least_depth(XY, whole, then(whole, part, whole), 4))
        self.assertIsNone(least_depth((), mix(A), then(mix(A), A, mix(A)), 6))
        self.assertEqual(least_depth((), mix(A), then(mix(A), A, A, mix(A)), 6), 3)

    def test_beside_views(self):
        for scope in ((), ("x",), XY):
            weaves = many_weaves(585, scope, 4, 14)
            for one, other in product(weaves, repeat=2):
                told = least_depth(scope, one, other, 3)
                for depth in range(4):
                    same = view(scope, one, depth) == view(scope, other, depth)
                    self.assertIs(alike_to(scope, one, other, depth), same)
                    self.assertEqual(same, told is None or depth < told)

    def test_short_words_at_each_depth(self):
        for scope, longest in (((), 6), (("x",), 4)):
            rows = [letters for many in range(longest + 1) for letters in product(letters_by_hand(scope), repeat=many)]
            for one, other in Random(590).sample(list(product(rows, repeat=2)), 40):
                first, second = written(scope, one), written(scope, other)
                told = [row_view(one, depth) == row_view(other, depth) for depth in range(7)]
                self.assertEqual([alike_to(scope, first, second, depth) for depth in range(7)], told)
                self.assertEqual(least_depth(scope, first, second, 6), told.index(False) if False in told else None)

    def test_put_in_the_place_of_one_another(self):
        random = Random(586)
        pairs = 0
        weaves = many_weaves(587, (), 4, 40) + [row(many) for many in range(1, 9)]
        frames = many_weaves(588, (), 3, 20)
        for one, other in product(weaves, repeat=2):
            if one == other or random.randrange(8):
                continue
            least = least_depth((), one, other, 4)
            if least is None or least > 1:
                for frame in random.sample(frames, 3):
                    path = random.choice(paths_in(frame))
                    first, second = with_part((), frame, path, one), with_part((), frame, path, other)
                    self.assertTrue(alike_to((), first, second, 4 if least is None else least - 1))
                    self.assertEqual(part_at((), frame, ()), frame)
                    pairs += 1
        self.assertGreater(pairs, 100)

    def test_turned(self):
        for scope in ((), ("x",)):
            weaves = many_weaves(589, scope, 4, 12)
            for one, other in product(weaves, repeat=2):
                self.assertEqual(least_depth(scope, one, other, 4), least_depth(scope, turned_by_hand(one), turned_by_hand(other), 4))

    def test_large_words(self):
        self.assertEqual(size((), row(200)), 399)
        self.assertTrue(alike_to((), row(200), row(199), 6))
        self.assertTrue(alike_to(XY, row(200, Y), then(on(Y), back(Y)), 6))
        self.assertFalse(alike_to(XY, row(200, Y), then(row(100, Y), X, row(99, Y)), 6))

    def test_errors_in_order(self):
        for function in (alike_to, least_depth):
            for bad in odd_values() + BAD_SCOPES:
                self.assertRaises(BadScope, function, bad, None, None, None)
            for bad in odd_values() + BAD_WEAVES:
                self.assertRaises(BadWeave, function, XY, bad, None, None)
                self.assertRaises(BadWeave, function, XY, A, bad, None)
            for bad in odd_values() + BAD_DEPTHS + [7]:
                self.assertRaises(BadDepth, function, XY, A, A, bad)
        self.assertIs(alike_to(scope=(), one=A, other=A, depth=6), True)
        self.assertIsNone(least_depth(scope=(), one=A, other=A, most=6))
        self.assertIsNone(least_depth((), A, NONE, 0))
        self.assertEqual(back(A)[0], "back")
