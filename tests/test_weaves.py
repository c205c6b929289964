"""[4], [5]: scopes, letters and weaves."""

from unittest import TestCase

from alongall.errors import BadLetters, BadScope, BadWeave, NotFinite
from alongall.weaves import is_weave, length, letters, letters_in, size, spelled, written
from tests.odd import doubled, nested, odd_values, spoiled
from tests.samples import A, NONE, X, Y, back, bush, letters_by_hand, many_weaves, mix, on, parts_by_hand, then

XY = ("x", "y")
SCOPES = ((), ("x",), XY, ("a", "b", "c"), ("in", "none", "zzzzzzzz"))
BAD_SCOPES = (
    ["x"], "x", ("y", "x"), ("x", "x"), ("a", "b", "c", "d"), ("all",), ("some",), ("X",), ("",), ("abcdefghi",), (1,),
    ("x", None), ("x", 1), (("x",),), None, 0, {"x": 1},
)


def count_by_hand(weave):
    return 1 + sum(count_by_hand(part) for part in parts_by_hand(weave))


def row_by_hand(weave):
    """The letters of a finite word, or None."""
    head = weave[0]
    if head == "letter":
        return (weave[1],)
    rows = [row_by_hand(part) for part in parts_by_hand(weave)]
    if head == "then":
        return None if None in rows else rows[0] + rows[1]
    return () if all(row == () for row in rows) else None


def letter_nodes(weave):
    if weave[0] == "letter":
        return {weave[1]}
    return {letter for part in parts_by_hand(weave) for letter in letter_nodes(part)}


def tower(many):
    """A weave that is many deep, with so many nodes."""
    weave = A
    for _ in range(many - 1):
        weave = on(weave)
    return weave


class Letters(TestCase):
    def test_letters(self):
        for scope in SCOPES:
            self.assertEqual(letters(scope), letters_by_hand(scope))
        self.assertEqual(letters(()), ((),))
        self.assertEqual(letters(XY), ((), ("x",), ("y",), ("x", "y")))

    def test_bad_scopes(self):
        for scope in BAD_SCOPES:
            for call in (
                lambda: letters(scope), lambda: is_weave(scope, NONE), lambda: size(scope, NONE),
                lambda: letters_in(scope, 7), lambda: length(scope, None), lambda: spelled(scope, on(A)),
                lambda: written(scope, None), lambda: is_weave(scope, object()),
            ):
                self.assertRaises(BadScope, call)

    def test_odd_scopes(self):
        for scope in odd_values():
            if not (isinstance(scope, tuple) and scope == ()):
                self.assertRaises(BadScope, letters, scope)


class IsWeave(TestCase):
    def test_each_kind(self):
        for weave in (NONE, A, X, then(A, X), on(NONE), back(X), mix(A), mix(NONE, X, back(A)), ("letter", XY)):
            self.assertIs(is_weave(XY, weave), True, weave)

    def test_letters_must_be_of_the_scope(self):
        self.assertIs(is_weave((), X), False)
        self.assertIs(is_weave(("y",), then(Y, X)), False)
        for letter in (("y", "x"), ("x", "x"), ["x"], "x", ("z",), (1,), None, ("x", "y", "z"), ((),)):
            self.assertIs(is_weave(XY, ("letter", letter)), False, letter)

    def test_lengths_of_tuples(self):
        for thing in (
            (), ("none", ()), ("letter",), ("letter", (), ()), ("then", A), ("then", A, A, A), ("on",), ("on", A, A),
            ("back",), ("back", A, A), ("mix",), ("mix", A), ("mix", A, A), ("mix", ()), ("mix", (A,), (A,)), ("other", A),
            (A,), ("then", (A, A)), "none", ("None",), ("mix", [A]), ["none"], ("on", ["none"]), ("on", "none"),
            ("on", ()), ("then", A, None),
        ):
            self.assertIs(is_weave((), thing), False, thing)

    def test_parts_of_mixes_ascend(self):
        self.assertIs(is_weave((), ("mix", (A, NONE))), True)
        self.assertIs(is_weave((), ("mix", (NONE, A))), False)
        self.assertIs(is_weave((), ("mix", (A, A))), False)
        self.assertIs(is_weave((), ("mix", (on(A), ("mix", (A,))))), False)
        self.assertIs(is_weave(XY, ("mix", (A, X, ("letter", XY), Y))), True)
        self.assertIs(is_weave(XY, ("mix", (A, X, Y, ("letter", XY)))), False)
        for wrong in (("mix", (NONE, A)), ("mix", ()), ("mix", (A, A)), X):
            for thing in (on(wrong), then(A, wrong), then(wrong, A), then(then(A, A), then(A, wrong)), mix(wrong), mix(A, on(wrong))):
                self.assertIs(is_weave((), thing), False)

    def test_bounds(self):
        self.assertIs(is_weave((), tower(60)), True)
        self.assertIs(is_weave((), tower(61)), False)
        self.assertIs(is_weave((), on(bush(399))), True)
        self.assertIs(is_weave((), bush(401)), False)
        self.assertIs(is_weave((), bush(399)), True)
        self.assertIs(is_weave((), back(on(bush(399)))), False)
        self.assertIs(is_weave((), ("then", A, tower(59))), True)
        self.assertIs(is_weave((), ("then", tower(60), A)), False)
        wide = tuple(sorted(on(weave) for weave in set(many_weaves(1, XY, 4, 400)) if count_by_hand(weave) == 3))
        self.assertIs(is_weave(XY, ("mix", wide[:9])), True)

    def test_none_and_letters_are_one_deep(self):
        for leaf in (NONE, A, X):
            weave = leaf
            for _ in range(59):
                weave = back(weave)
            self.assertIs(is_weave(("x",), weave), True)
            self.assertIs(is_weave(("x",), back(weave)), False)

    def test_any_value(self):
        for thing in odd_values():
            self.assertIs(is_weave((), thing), False)
        for thing in (nested("on", 10 ** 5), doubled("then", NONE, 59), ("mix", (doubled("then", A, 99),))):
            self.assertIs(is_weave((), thing), False)

    def test_spoiled_weaves(self):
        for weave in (NONE, X, then(A, Y), on(mix(A, X)), back(mix(NONE, then(A, ("letter", XY))))):
            for thing in spoiled(weave):
                self.assertIs(is_weave(XY, thing), False)

    def test_some_weaves(self):
        for scope in SCOPES:
            for weave in many_weaves(2, scope, 5, 60):
                self.assertIs(is_weave(scope, weave), count_by_hand(weave) <= 400)


class Questions(TestCase):
    def test_size(self):
        self.assertEqual(size((), NONE), 1)
        self.assertEqual(size(("x",), mix(A, X)), 3)
        self.assertEqual(size((), then(A, A, A)), 5)
        self.assertEqual(size((), on(bush(399))), 400)
        for weave in many_weaves(3, XY, 5, 100):
            self.assertEqual(size(XY, weave), count_by_hand(weave))

    def test_letters_in(self):
        self.assertEqual(letters_in(XY, NONE), ())
        self.assertEqual(letters_in(XY, then(("letter", XY), Y, X, Y, A)), ((), ("x",), ("y",), XY))
        self.assertEqual(letters_in(XY, mix(("letter", XY), Y)), (("y",), XY))
        self.assertEqual(letters_in(XY, on(then(NONE, back(NONE), mix(NONE)))), ())
        for weave in many_weaves(4, ("a", "b", "c"), 5, 100):
            told = letters_in(("a", "b", "c"), weave)
            self.assertEqual(set(told), letter_nodes(weave))
            order = letters_by_hand(("a", "b", "c"))
            self.assertEqual(list(told), sorted(letter_nodes(weave), key=order.index))

    def test_length_and_spelled(self):
        empty = then(on(NONE), back(mix(NONE)), mix(NONE, on(NONE)), NONE)
        self.assertEqual(length((), empty), 0)
        self.assertEqual(spelled((), empty), ())
        self.assertEqual(length((), on(empty)), 0)
        self.assertEqual(length((), mix(empty)), 0)
        self.assertEqual(length((), then(A, empty, A)), 2)
        self.assertEqual(spelled(("x",), then(X, empty, A)), (("x",), ()))
        for weave in (on(A), back(A), mix(A), mix(NONE, A), then(A, on(A)), then(back(A), NONE)):
            self.assertIsNone(length((), weave))
            self.assertRaises(NotFinite, spelled, (), weave)
        for weave in many_weaves(5, XY, 4, 200) + many_weaves(5, XY, 6, 60, ("none", "letter", "then")):
            row = row_by_hand(weave)
            self.assertEqual(length(XY, weave), None if row is None else len(row))
            if row is None:
                self.assertRaises(NotFinite, spelled, XY, weave)
            else:
                self.assertEqual(spelled(XY, weave), row)

    def test_bad_weaves(self):
        for weave in odd_values() + [X, ["none"], ("mix", (NONE, A)), tower(61), on(on(bush(399)))]:
            for ask in (size, letters_in, length, spelled):
                self.assertRaises(BadWeave, ask, (), weave)
                self.assertRaises(BadScope, ask, ("b", "a"), weave)

    def test_by_name(self):
        self.assertEqual(size(scope=(), weave=A), length(weave=A, scope=()))
        self.assertEqual(letters_in(scope=(), weave=A), spelled(scope=(), weave=A))
        self.assertTrue(is_weave(scope=(), thing=written(scope=(), row=((),))))


class Written(TestCase):
    def test_rows(self):
        self.assertEqual(written(XY, ()), NONE)
        self.assertEqual(written(XY, (("y",),)), Y)
        self.assertEqual(written(XY, ((), ("x",), ("y",))), ("then", A, ("then", X, Y)))

    def test_there_and_back(self):
        for many in range(21):
            row = (letters(XY) * 6)[:many]
            self.assertEqual(spelled(XY, written(XY, row)), row)

    def test_bad_rows(self):
        self.assertEqual(size((), written((), ((),) * 20)), 39)
        for row in (((),) * 21, [()], (("x",), ("z",)), (("y", "x"),), ("x",), (("x",), None), "x", None, ([],), ((), [])):
            self.assertRaises(BadLetters, written, XY, row)
        for row in odd_values():
            if not (isinstance(row, tuple) and set(map(type, row)) == {tuple} and set(row) == {()}):
                self.assertRaises(BadLetters, written, (), row)
        self.assertRaises(BadScope, written, ("y", "x"), None)
