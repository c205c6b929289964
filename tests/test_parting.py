"""[78]: part words, sentences about them, formulas mirrored."""

from itertools import product
from unittest import TestCase

from alongall.changing import backward, widened
from alongall.compiling import reader_of
from alongall.deciding import means
from alongall.errors import BadFormula, BadName, BadReader, BadScope, BadSentence, BadWeave, TooMany
from alongall.formulas import is_formula, nodes_in
from alongall.least import least
from alongall.making import turned
from alongall.parting import kept, mirrored, picked, relative
from alongall.readers import is_reader, takes
from alongall.weaves import is_weave
from tests.formulas import free_by_hand, holds, many_formulas
from tests.odd import odd_values, spoiled
from tests.oracles import same_words
from tests.samples import (
    A, NONE, X, Y, back, borne, letters_by_hand, many_weaves, mix, on, parts_by_hand, tallied, then,
)
from tests.test_making import BAD_SCOPES, BAD_WEAVES
from tests.test_readers import ONE_X, many_readers

XY = ("x", "y")
BOTH = ("letter", XY)
BAD_NAMES = ["", "X", "all", "nine" * 3, b"x", ("x",), ["x"], None, 0, True]


def kept_by_hand(weave, name):
    if weave[0] == "letter":
        return ("letter", tuple(sorted(set(weave[1]) - {name}))) if name in weave[1] else NONE
    if weave[0] == "none":
        return weave
    parts = [kept_by_hand(part, name) for part in parts_by_hand(weave)]
    return mix(*parts) if weave[0] == "mix" else (weave[0],) + tuple(parts)


def within_by_hand(formula, name):
    head = formula[0]
    if head in ("sub", "ahead", "one"):
        return formula
    if head == "some":
        return (head, formula[1], ("both", ("sub", formula[1], name), within_by_hand(formula[2], name)))
    if head == "all":
        return (head, formula[1], ("either", ("not", ("sub", formula[1], name)), within_by_hand(formula[2], name)))
    return (head,) + tuple(within_by_hand(part, name) for part in formula[1:])


def most_free(formula):
    """The most free names of a formula in it."""
    parts = () if formula[0] in ("sub", "ahead", "one") else formula[2:] if formula[0] in ("some", "all") else formula[1:]
    return max([len(free_by_hand(formula))] + [most_free(part) for part in parts])


def count(formula):
    if formula[0] in ("sub", "ahead", "one"):
        return 1
    return 1 + sum(count(part) for part in (formula[2:] if formula[0] in ("some", "all") else formula[1:]))


def bound(formula):
    if formula[0] in ("sub", "ahead", "one"):
        return set()
    names = {formula[1]} if formula[0] in ("some", "all") else set()
    return names.union(*[bound(part) for part in (formula[2:] if formula[0] in ("some", "all") else formula[1:])])


def closed(formula, how="all"):
    """The formula with all of its free names bound."""
    for name in sorted(free_by_hand(formula)):
        formula = (how, name, formula)
    return formula


def some_sentences(seed, names, deep, many):
    return [closed(formula, ("some", "all")[at % 2]) for at, formula in enumerate(many_formulas(seed, names, deep, many, False))]


class Kept(TestCase):
    def test_by_hand(self):
        for weave, right in (
            (NONE, NONE), (A, NONE), (X, A), (Y, NONE), (BOTH, Y), (then(X, Y, BOTH), then(A, NONE, Y)), (on(X), on(A)), (back(Y), back(NONE)),
            (mix(X, Y), mix(A, NONE)), (mix(A, Y), mix(NONE)), (mix(A, Y, X, BOTH), mix(NONE, A, Y)), (mix(on(A), on(Y)), mix(on(NONE))),
            (mix(then(X, A), then(X, Y)), mix(then(A, NONE))), (on(mix(mix(A), mix(Y))), on(mix(mix(NONE)))), (mix(NONE, A), mix(NONE)),
        ):
            self.assertEqual(kept(XY, weave, "x"), right, weave)
        self.assertEqual(kept(("x",), X, "x"), A)
        self.assertEqual(kept(("a", "x", "y"), ("letter", ("a", "x", "y")), "x"), ("letter", ("a", "y")))

    def test_any_weave(self):
        for weave in many_weaves(600, ("a", "x", "y"), 5, 100):
            for name in ("a", "x", "y"):
                told = kept(("a", "x", "y"), weave, name)
                self.assertEqual(told, kept_by_hand(weave, name))
                self.assertTrue(is_weave(tuple(sorted({"a", "x", "y"} - {name})), told))

    def test_errors_in_order(self):
        for bad in odd_values() + BAD_SCOPES:
            self.assertRaises(BadScope, kept, bad, None, None)
        for bad in odd_values() + BAD_WEAVES:
            self.assertRaises(BadWeave, kept, XY, bad, None)
        for bad in odd_values() + BAD_NAMES + ["z", "xy"]:
            self.assertRaises(BadName, kept, XY, A, bad)
        self.assertRaises(BadName, kept, (), A, "x")
        self.assertEqual(kept(scope=XY, weave=X, name="x"), A)


class Picked(TestCase):
    def test_by_hand(self):
        # Just one x among those that bear y.
        told = picked(ONE_X, "y")
        self.assertEqual(told, ("reader", XY, tallied(2), (0, 0, 0, 1), (1,)))
        self.assertEqual(picked(ONE_X, "a"), ("reader", ("a", "x"), tallied(2), (0, 0, 0, 1), (1,)))
        self.assertEqual(picked(("reader", (), tallied(2), (1,), (1,)), "x"), ONE_X)
        wide = picked(("reader", XY, borne(2), (3, 1, 2, 0), (3,)), "w")
        self.assertEqual(wide, ("reader", ("w", "x", "y"), borne(2), (0, 3, 0, 1, 0, 2, 0, 0), (3,)))

    def test_beside_kept(self):
        for reader in many_readers(601, 40):
            for name in ("a", "m", "z"):
                told = picked(reader, name)
                self.assertTrue(is_reader(told))
                self.assertEqual((told[1], told[2], told[4]), (tuple(sorted(reader[1] + (name,))), reader[2], reader[4]))
                for weave in many_weaves(602, told[1], 4, 6):
                    self.assertIs(takes(told, weave), takes(reader, kept(told[1], weave, name)))

    def test_errors_in_order(self):
        for bad in odd_values() + [ONE_X[:4]]:
            self.assertRaises(BadReader, picked, bad, None)
        three = ("reader", ("a", "b", "c"), tallied(1), (0,) * 8, ())
        for bad in odd_values() + BAD_NAMES:
            self.assertRaises(BadName, picked, ONE_X, bad)
            self.assertRaises(BadName, picked, three, bad)
        self.assertRaises(BadName, picked, ONE_X, "x")
        self.assertRaises(BadName, picked, three, "b")
        self.assertRaises(BadScope, picked, three, "d")
        self.assertEqual(picked(reader=ONE_X, name="y")[1], XY)


class Relative(TestCase):
    def test_by_hand(self):
        one = ("some", "x", ("one", "x"))
        self.assertEqual(relative(one, "p"), ("some", "x", ("both", ("sub", "x", "p"), ("one", "x"))))
        each = ("all", "x", ("not", ("one", "x")))
        self.assertEqual(relative(each, "p"), ("all", "x", ("either", ("not", ("sub", "x", "p")), ("not", ("one", "x")))))
        self.assertEqual(relative(("not", one), "p"), ("not", relative(one, "p")))
        self.assertEqual(relative(("either", one, each), "p"), ("either", relative(one, "p"), relative(each, "p")))
        self.assertEqual(
            relative(("some", "x", ("all", "y", ("ahead", "x", "y"))), "a"),
            ("some", "x", ("both", ("sub", "x", "a"), ("all", "y", ("either", ("not", ("sub", "y", "a")), ("ahead", "x", "y"))))))

    def test_readers(self):
        many = 0
        for sentence in some_sentences(603, ("x", "y"), 3, 60):
            try:
                told = relative(sentence, "p")
                right = picked(reader_of(sentence), "p")
                found = reader_of(told)
            except TooMany:
                continue
            self.assertTrue(is_formula(told))
            self.assertEqual(told, within_by_hand(sentence, "p"))
            if found[1] == ():
                found = widened(found, ("p",))
            self.assertTrue(same_words(found, right), sentence)
            self.assertEqual(least(found), least(right))
            many += 1
        self.assertGreater(many, 40)

    def test_words(self):
        # FACT, by the words: the places that bear the name alone.
        for sentence in some_sentences(604, ("x", "y"), 3, 40):
            for weave in many_weaves(605, ("p",), 3, 4):
                try:
                    self.assertIs(means(relative(sentence, "p"), ("p",), weave), means(sentence, (), kept(("p",), weave, "p")))
                except TooMany:
                    pass

    def test_bounds(self):
        counts = set()
        for sentence in some_sentences(606, ("x", "y", "z"), 5, 400):
            if count(sentence) > 60 or most_free(sentence) > 3:
                continue
            for name in ("p", "x", "zz"):
                if name in bound(sentence):
                    self.assertRaises(BadName, relative, sentence, name)
                    counts.add("bound")
                    continue
                right = within_by_hand(sentence, name)
                if most_free(right) > 3:
                    self.assertRaises(BadScope, relative, sentence, name)
                    counts.add("scope")
                elif count(right) > 60:
                    self.assertRaises(TooMany, relative, sentence, name)
                    counts.add("nodes")
                else:
                    self.assertEqual(relative(sentence, name), right)
                    counts.add("told")
        self.assertGreaterEqual(counts, {"bound", "scope", "told"})

    def test_just_60_nodes(self):
        def long(many, last):
            told = ("some", "x", ("one", "x"))
            for _ in range(many):
                told = ("both", ("some", "x", ("one", "x")), told)
            for _ in range(last):
                told = ("not", told)
            return told

        # k + 1 parts of 2 nodes, 4 then, k that join them.
        for many, last, right in ((11, 1, 60), (11, 2, 61), (10, 6, 60), (10, 7, 61), (12, 0, 64)):
            sentence = long(many, last)
            self.assertEqual(5 * many + 4 + last, right)
            if right <= 60:
                self.assertEqual(nodes_in(relative(sentence, "p")), right)
            else:
                with self.assertRaises(TooMany) as caught:
                    relative(sentence, "p")
                self.assertEqual(caught.exception.most, 60)
        # More than 3 free names count ahead of too many nodes.
        wide = ("some", "x", ("some", "y", ("some", "z", ("both", ("sub", "x", "y"), ("sub", "y", "z")))))
        self.assertRaises(BadScope, relative, wide, "p")
        self.assertRaises(BadScope, relative, ("both", long(12, 0), wide), "p")
        narrow = ("some", "x", ("some", "y", ("both", ("sub", "x", "y"), ("sub", "y", "x"))))
        self.assertTrue(is_formula(relative(narrow, "p")))
        # A part with three free names, all bound further out, below no some of its own.
        self.assertRaises(BadScope, relative, ("some", "x", ("some", "y", ("all", "z", ("either", ("sub", "x", "y"), ("one", "z"))))), "p")

    def test_errors_in_order(self):
        right = ("some", "x", ("one", "x"))
        for bad in odd_values() + list(spoiled(right)) + [
                ("one", "x"), ("some", "y", ("one", "x")), ("all", "x", ("well", "x")), ("bare", "x"), ("some", "x", ("dense", "x"))]:
            self.assertRaises(BadSentence, relative, bad, None)
        for bad in odd_values() + BAD_NAMES + ["x"]:
            self.assertRaises(BadName, relative, right, bad)
        self.assertRaises(BadName, relative, ("some", "x", ("some", "y", ("one", "x"))), "y")
        self.assertRaises(BadName, relative, ("some", "x", ("some", "y", ("some", "z", ("both", ("sub", "x", "y"), ("one", "z"))))), "z")
        self.assertTrue(is_formula(relative(sentence=right, name="p")))


class Mirrored(TestCase):
    def test_by_hand(self):
        self.assertEqual(mirrored(("ahead", "x", "y")), ("ahead", "y", "x"))
        self.assertEqual(mirrored(("ahead", "x", "x")), ("ahead", "x", "x"))
        self.assertEqual(mirrored(("sub", "x", "y")), ("sub", "x", "y"))
        self.assertEqual(
            mirrored(("some", "x", ("both", ("one", "x"), ("not", ("ahead", "x", "y"))))),
            ("some", "x", ("both", ("one", "x"), ("not", ("ahead", "y", "x")))))
        self.assertEqual(mirrored(("all", "x", ("either", ("ahead", "y", "x"), ("sub", "x", "y")))),
                         ("all", "x", ("either", ("ahead", "x", "y"), ("sub", "x", "y"))))

    def test_on_turned_words(self):
        for formula in many_formulas(607, XY, 3, 60, False):
            told = mirrored(formula)
            self.assertEqual(mirrored(told), formula)
            self.assertEqual(nodes_in(told), nodes_in(formula))
            for weave in many_weaves(608, XY, 3, 3):
                try:
                    self.assertIs(means(told, XY, turned(XY, weave)), means(formula, XY, weave))
                except TooMany:
                    pass
            try:
                self.assertEqual(reader_of(told), backward(reader_of(formula)))
            except TooMany:
                pass

    def test_finite_words(self):
        for formula in many_formulas(609, XY, 3, 30, False):
            for many in range(3):
                for row in product(letters_by_hand(XY), repeat=many):
                    sets = {name: {p for p, letter in enumerate(row) if name in letter} for name in XY}
                    other = {name: {many - 1 - p for p in places} for name, places in sets.items()}
                    self.assertEqual(holds(mirrored(formula), many, other), holds(formula, many, sets))

    def test_errors(self):
        for bad in odd_values() + list(spoiled(("not", ("ahead", "x", "y")))) + [("well", "x"), ("not", ("next", "x", "y")), ("some", "x", ("bare", "x"))]:
            self.assertRaises(BadFormula, mirrored, bad)
        self.assertEqual(mirrored(formula=("one", "x")), ("one", "x"))
