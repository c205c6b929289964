"""[46]: kinds of orders, values met in them, verdicts."""

from itertools import product
from unittest import TestCase

from alongall.algebras import value
from alongall.compiling import reader_of
from alongall.errors import BadKind, BadReader, BadScope, BadSentence, BadWeave, TooMany
from alongall.kinds import is_of, met_in
from alongall.making import turned
from alongall.readers import takes
from alongall.texts import formula_of
from alongall.verdicts import is_verdict_in, verdict_in
from alongall.weaves import is_weave
from tests.formulas import many_formulas, told_short
from tests.odd import odd_values, spoiled
from tests.oracles import lots_of_numbers, mixed_in, walk_by_hand
from tests.samples import (
    A, ALGEBRAS, NONE, X, back, bush, led, many_weaves, mix, on, ordered, parts_by_hand, tallied, then,
)
from tests.test_making import BAD_SCOPES, BAD_WEAVES
from tests.test_readers import ONE_X, many_readers

KINDS = ("finite", "well", "backwell", "scattered", "any")
WAYS = {"finite": (), "well": ("on",), "backwell": ("back",), "scattered": ("on", "back"), "any": ("on", "back", "mix")}
ODD_KINDS = [thing for thing in odd_values() if not isinstance(thing, str) or thing not in KINDS]
BAD_KINDS = ["", "Any", "finite ", "all", ("any",), ["any"], 0, b"any", "dense"]
# Sentences with what is true of each kind in turn: A always, N never, B both.
KNOWN = (
    ("all x: finite x", "ABBBB"), ("all x: well x", "AABBB"), ("all x: scattered x", "AAAAB"), ("some x: one x", "BBBBB"),
    ("some x: (one x & !one x)", "NNNNN"), ("all x: x in x", "AAAAA"), ("all x: (bare x | some y: first y x)", "AABBB"),
    ("all x: (bare x | some y: last y x)", "ABABB"), ("!all x: well x", "NNBBB"), ("some x: !finite x", "NBBBB"),
    ("some x: (dense x & !(one x | bare x))", "NNNNB"), ("some x: some y: next x y", "BBBBB"), ("!all x: scattered x", "NNNNB"),
    ("(!some x: one x | some x: (one x & all y: (!one y | (x in y | x < y))))", "AABBB"),
    ("(!some x: some y: (one x & (x < y & !y < y)) | some x: some y: next x y)", "AAAAB"),
)


def closed_by_kind(algebra, starts, kind):
    """The least lot with 0 and the starts that is closed for the kind."""
    _, many, then_, on_, back_, _ = algebra
    found = {0, *starts}
    while True:
        more = found | {then_[a][b] for a in found for b in found}
        if "on" in WAYS[kind]:
            more |= {on_[a] for a in found}
        if "back" in WAYS[kind]:
            more |= {back_[a] for a in found}
        if "mix" in WAYS[kind]:
            more |= {mixed_in(algebra, lot) for lot in lots_of_numbers(found) if lot}
        if more == found:
            return tuple(sorted(found))
        found = more


def kind_by_hand(weave):
    """A triple: how many places, if finitely many; whether well, backwell; the last one whether scattered."""
    head = weave[0]
    if head == "none":
        return 0, True, True, True
    if head == "letter":
        return 1, True, True, True
    told = [kind_by_hand(part) for part in parts_by_hand(weave)]
    if all(part[0] == 0 for part in told):
        return 0, True, True, True
    wells, backwells, scattereds = (all(part[at] for part in told) for at in (1, 2, 3))
    if head == "then":
        many = None if None in (told[0][0], told[1][0]) else told[0][0] + told[1][0]
        return many, wells, backwells, scattereds
    if head == "on":
        return None, wells, False, scattereds
    if head == "back":
        return None, False, backwells, scattereds
    return None, False, False, False


class IsOf(TestCase):
    def test_by_hand(self):
        for weave, right in (
            (NONE, "11111"), (A, "11111"), (then(A, X), "11111"), (on(A), "01011"), (back(A), "00111"), (on(NONE), "11111"),
            (mix(NONE), "11111"), (mix(A), "00001"), (on(on(X)), "01011"), (back(back(A)), "00111"), (on(back(A)), "00011"),
            (back(on(A)), "00011"), (then(on(A), back(A)), "00011"), (then(back(A), on(A)), "00011"), (on(mix(A)), "00001"),
            (mix(NONE, A), "00001"), (then(mix(NONE), A), "11111"), (back(mix(on(NONE))), "11111"), (on(then(NONE, A)), "01011"),
            (then(mix(A), A), "00001"), (mix(on(A), back(A)), "00001"), (then(on(A), on(A)), "01011"), (bush(399), "11111"),
        ):
            for kind, sign in zip(KINDS, right):
                self.assertIs(is_of(kind, ("x",), weave), sign == "1", (kind, weave))

    def test_any_weave(self):
        for weave in many_weaves(140, ("x",), 5, 200) + many_weaves(141, ("x",), 5, 200, ("letter", "then", "on", "back", "none")):
            many, well, backwell, scattered = kind_by_hand(weave)
            told = [is_of(kind, ("x",), weave) for kind in KINDS]
            self.assertEqual(told, [many is not None, well, backwell, scattered, True])
            self.assertIs(is_of("well", ("x",), turned(("x",), weave)), backwell)
            number = value(ordered(), ("x",), (1, 1), weave)
            self.assertEqual((well, scattered), (number < 2, number < 3))

    def test_errors_in_order(self):
        for bad in ODD_KINDS + BAD_KINDS:
            self.assertRaises(BadKind, is_of, bad, None, None)
        for bad in odd_values() + BAD_SCOPES:
            self.assertRaises(BadScope, is_of, "any", bad, None)
        for bad in odd_values() + BAD_WEAVES:
            self.assertRaises(BadWeave, is_of, "any", ("x", "y"), bad)
        self.assertIs(is_of(kind="well", scope=(), weave=on(A)), True)


class MetIn(TestCase):
    def test_by_hand(self):
        for kind, right in (("finite", (0, 1)), ("well", (0, 1)), ("backwell", (0, 1, 2)), ("scattered", (0, 1, 2)), ("any", (0, 1, 2, 3))):
            self.assertEqual(met_in(("reader", (), ordered(), (1,), ()), kind), right)
        for kind in KINDS:
            self.assertEqual(met_in(ONE_X, kind), (0, 1, 2))
            self.assertEqual(met_in(("reader", (), tallied(7), (0,), (1,)), kind), (0,))
        for kind, right in (("finite", (0, 3)), ("well", (0, 3)), ("backwell", (0, 1, 3)), ("scattered", (0, 1, 3)), ("any", (0, 1, 3))):
            self.assertEqual(met_in(("reader", (), led(3), (3,), (1,)), kind), right)

    def test_least_closed_lot(self):
        for reader in many_readers(142, 80) + many_readers(143, 20, algebras=ALGEBRAS):
            for kind in KINDS:
                self.assertEqual(met_in(reader, kind), closed_by_kind(reader[2], reader[3], kind))
            met = walk_by_hand((reader[2],), [(start,) for start in reader[3]])
            self.assertEqual(met_in(reader, "any"), tuple(sorted(thing[0] for thing in met)))

    def test_values_of_words_of_the_kind(self):
        for reader in many_readers(144, 20):
            for weave in many_weaves(145, reader[1], 4, 20):
                for kind in KINDS:
                    if is_of(kind, reader[1], weave):
                        self.assertIn(value(reader[2], reader[1], reader[3], weave), met_in(reader, kind))

    def test_errors_in_order(self):
        for bad in odd_values() + [ONE_X[:4]]:
            self.assertRaises(BadReader, met_in, bad, None)
        for bad in ODD_KINDS + BAD_KINDS:
            self.assertRaises(BadKind, met_in, ONE_X, bad)
        self.assertEqual(met_in(reader=ONE_X, kind="any"), (0, 1, 2))


class Verdicts(TestCase):
    def check(self, sentence, kind):
        told = verdict_in(sentence, kind)
        reader = reader_of(sentence)
        self.assertIs(is_verdict_in(sentence, kind, told), True)
        if told[0] == "both":
            _, one, other = told
            self.assertTrue(is_weave((), one) and is_weave((), other))
            self.assertTrue(is_of(kind, (), one) and is_of(kind, (), other))
            self.assertIs(takes(reader, one), True)
            self.assertIs(takes(reader, other), False)
        else:
            self.assertEqual(told, (told[0], met_in(reader, kind)))
            self.assertTrue(all((a in reader[4]) == (told[0] == "always") for a in told[1]))
        return told[0]

    def test_known(self):
        words = {"A": "always", "N": "never", "B": "both"}
        for text, right in KNOWN:
            for kind, sign in zip(KINDS, right):
                self.assertEqual(self.check(formula_of(text), kind), words[sign], (text, kind))

    def test_any_sentence(self):
        many = 0
        for formula in many_formulas(146, ("x", "y"), 4, 60):
            sentence = ("some", "x", ("all", "y", formula))
            try:
                reader_of(sentence)
            except TooMany:
                continue
            many += 1
            for kind in KINDS:
                self.check(sentence, kind)
        self.assertGreater(many, 40)

    def test_just_one_word_has_papers(self):
        for text, _ in KNOWN[1:11:3]:
            sentence = formula_of(text)
            many = reader_of(sentence)[2][1]
            self.assertLess(many, 5)
            small = [NONE, A, on(A), back(A), mix(A), then(on(A), back(A))]
            for kind in KINDS:
                word = verdict_in(sentence, kind)[0]
                papers = [("always", lot) for lot in lots_of_numbers(range(many))] + [("never", lot) for lot in lots_of_numbers(range(many))]
                papers += [("both", one, other) for one, other in product(small, repeat=2)]
                right = {paper[0] for paper in papers if is_verdict_in(sentence, kind, paper)}
                self.assertEqual(right, {word}, (text, kind))

    def test_lots_that_are_not_the_least(self):
        # All x are well ordered, in well orders: the least lot, one with more elements that is closed, others.
        sentence = formula_of("(all x: finite x | all x: !finite x)")
        reader = reader_of(sentence)
        _, _, algebra, starts, taken = reader
        for kind in KINDS:
            for word in ("always", "never"):
                for lot in lots_of_numbers(range(algebra[1])):
                    right = 0 in lot and starts[0] in lot and all((a in taken) == (word == "always") for a in lot)
                    right = right and set(closed_by_kind(algebra, lot, kind)) == set(lot)
                    self.assertIs(is_verdict_in(sentence, kind, (word, lot)), right)

    def test_larger_lots(self):
        found = 0
        for text in ("all x: scattered x", "some x: !finite x", "(all x: finite x | some x: !well x)"):
            sentence = formula_of(text)
            _, _, algebra, starts, taken = reader_of(sentence)
            for kind in KINDS:
                least_lot = met_in(reader_of(sentence), kind)
                for lot in lots_of_numbers(range(algebra[1])):
                    right = set(least_lot) <= set(lot) and closed_by_kind(algebra, lot, kind) == lot and (
                        len({a in taken for a in lot}) == 1)
                    told = is_verdict_in(sentence, kind, ("always", lot)) or is_verdict_in(sentence, kind, ("never", lot))
                    self.assertIs(told, right)
                    found += right and lot != least_lot
        self.assertGreater(found, 0)

    def test_bent_verdicts(self):
        well = formula_of("all x: well x")
        self.assertIs(is_verdict_in(well, "any", ("both", A, back(A))), True)
        self.assertIs(is_verdict_in(well, "any", ("both", on(on(A)), mix(A))), True)
        for kind, thing in (
            ("any", ("both", back(A), A)), ("any", ("both", A, A)), ("any", ("both", A)), ("any", ("both", A, back(A), A)),
            ("any", ("both", X, back(A))), ("any", ("both", A, back(X))), ("any", ["both", A, back(A)]), ("any", ("Both", A, back(A))),
            ("well", ("both", A, back(A))), ("backwell", ("both", on(A), back(A))), ("scattered", ("both", A, mix(A))), ("any", ("both", A, None)),
            ("any", ("always", (0, 1, 2))), ("any", ("never", (0, 1, 2))), ("any", ("always", ())), ("well", ("always", (1,))),
        ):
            self.assertIs(is_verdict_in(well, kind, thing), False, thing)
        self.assertIs(is_verdict_in(well, "backwell", ("both", A, back(A))), True)
        self.assertIs(is_verdict_in(well, "scattered", ("both", A, on(back(A)))), True)
        for thing in odd_values() + list(spoiled(("both", A, back(A)))):
            self.assertIs(is_verdict_in(well, "any", thing), False)
        right = verdict_in(well, "well")
        self.assertEqual(right[0], "always")
        for thing in odd_values() + list(spoiled(right)) + [("never", right[1]), right[:1], ("always", right[1], ()), ("always", right[1][:1] * 2)]:
            self.assertIs(is_verdict_in(well, "well", thing), False, thing)

    def test_errors_in_order(self):
        four = ("both", ("sub", "a", "b"), ("sub", "c", "d"))
        ten = told_short(("dense", "x"))
        for ask, more in ((verdict_in, ()), (is_verdict_in, (None,))):
            for bad in odd_values() + [("one", "x"), four, ("some", "y", ("one", "x")), ["some"], ("well", "x"), ()]:
                self.assertRaises(BadSentence, ask, bad, None, *more)
            for bad in ODD_KINDS + BAD_KINDS:
                self.assertRaises(BadKind, ask, ("all", "x", ten), bad, *more)
            for sentence, most in (
                (("all", "x", ten), 10), (("some", "x", ("some", "y", ("either", ("one", "x"), ("one", "y")))), 8),
            ):
                with self.assertRaises(TooMany) as caught:
                    ask(sentence, "finite", *more)
                self.assertEqual(caught.exception.most, most)
        told = verdict_in(sentence=("all", "x", ("well", "x")), kind="well")
        self.assertIs(is_verdict_in(sentence=("all", "x", ("well", "x")), kind="well", thing=told), True)
