"""[64], [65]: tables of values of full words, and words for formulas."""

from itertools import product
from random import Random
from unittest import TestCase

from alongall.errors import BadPlaced, BadScope, TooMany
from alongall.fullwords import back_value, mix_value, on_value, then_value, value_of
from alongall.placed import mirrored, names_of, there
from alongall.placetables import is_bar_table, places_parted, table_of, word_for
from alongall.spots import is_spot
from alongall.weaves import is_weave
from tests.fullness import ALWAYS, FORMULAS, M, N, NOT_M, THREE, full_letters, looks_in, names_in, value_by_hand, letter_told
from tests.odd import Strange, odd_values, spoiled
from tests.oracles import row_holds
from tests.samples import many_weaves, spots_by_hand
from tests.test_fullwords import BAD_PLACED, F, G, Words, nothing
from tests.test_placed import any_placed, looks_in as looks_count, nodes_in

TWINS = (
    (("until", M, N), ("until", M, N)), (M, ("not", ("not", M))), (("since", M, ("either", M, N)), ("since", ("both", M, M), ("either", N, M))),
    (("not", ("until", ALWAYS, M)), ("not", ("until", ALWAYS, ("both", M, M)))), (("until", ALWAYS, ("both", M, NOT_M)), ("both", N, ("not", N))),
    (("since", ALWAYS, M), ("since", ALWAYS, ("not", NOT_M))), (ALWAYS, ("not", ("both", N, ("not", N)))),
)
UNLIKE = (
    (M, N), (("until", M, N), ("since", M, N)), (("until", M, N), ("until", ("both", M, N), N)), (("since", ALWAYS, M), M),
    (("until", M, M), ("until", NOT_M, M)),
    # Places with x without a first one ahead: only where they are dense, or without a beginning.
    (("not", ("until", ALWAYS, M)), ("not", ("until", NOT_M, M))), (("since", ALWAYS, M), ("since", NOT_M, M)), (("until", ALWAYS, ALWAYS), ALWAYS), (M, ("mark", "z")),
)


def placed_with(seed, most, many, names="xy"):
    """Some places formulas with at most so many unlike until and since."""
    random = Random(seed)
    found = []
    while len(found) < many:
        formula = any_placed(random, 4, names)
        if len(sum(looks_in(formula), ())) <= most and looks_count(formula) <= 6 and nodes_in(formula) <= 40:
            found.append(formula)
    return found


def closing(formula, ways=("then", "on", "back", "mix")):
    """The table with fewest values, by closing slowly; or what is only closed in some ways."""
    laters, earliers = looks_in(formula)
    names = tuple(sorted(names_in(formula)))
    table = {nothing(formula)} | {value_of(formula, full) for full in full_letters(names, laters, earliers)}
    while True:
        more = set()
        if "then" in ways:
            more |= {then_value(formula, one, other) for one, other in product(table, repeat=2)}
        if "on" in ways:
            more |= {on_value(formula, one) for one in table}
        if "back" in ways:
            more |= {back_value(formula, one) for one in table}
        if "mix" in ways:
            more |= {mix_value(formula, tuple(sorted(lot))) for lot in lots_that_count(table)}
        more = table | (more - {None})
        if more == table:
            return tuple(sorted(table))
        table = more


def lots_that_count(table):
    """Lots such that each mix is that of one of them: all that a mix hangs on is told by one value for each thing."""
    known = {}
    for one in sorted(table):
        for key, lot in [((), ())] + list(known.items()):
            new = lot + (one,)
            told = tuple(
                (min(pair[0] & 1 for pair in pairs), max(pair[0] & 2 for pair in pairs), min_fits(pairs)) for pairs in zip(*new))
            known.setdefault(told, new)
    return known.values()


def min_fits(pairs):
    fits = 3
    for pair in pairs:
        fits &= pair[1]
    return fits


def bars_by_hand(formula, table):
    laters, earliers = looks_in(formula)
    names = tuple(sorted(names_in(formula)))
    for full in full_letters(names, laters, earliers):
        bits = dict(zip(laters + earliers, full[1] + full[2]))
        if true_at(formula, dict(zip(names, full[0])), bits):
            for one, other in product(table, repeat=2):
                told = then_value(formula, one, value_of(formula, full))
                told = None if told is None else then_value(formula, told, other)
                if told is not None and all(fits in (1, 3) for _, fits in told):
                    return False
    return True


def true_at(formula, marks, bits):
    head = formula[0]
    if head == "mark":
        return marks[formula[1]] == 1
    if head in ("until", "since"):
        return bits[formula] == 1
    if head == "not":
        return not true_at(formula[1], marks, bits)
    if head == "both":
        return true_at(formula[1], marks, bits) and true_at(formula[2], marks, bits)
    return true_at(formula[1], marks, bits) or true_at(formula[2], marks, bits)


class Tables(TestCase):
    def test_by_hand(self):
        self.assertEqual(table_of(M), ((),))
        self.assertEqual(table_of(formula=ALWAYS), ((),))
        never = ("until", M, ("both", M, NOT_M))
        self.assertEqual(table_of(never), tuple(((sees, fits),) for sees in (0, 1) for fits in (1, 2, 3)))

    def test_fewest_values(self):
        for formula in FORMULAS + tuple(placed_with(610, 1, 12)) + tuple(placed_with(611, 2, 8)) + (GOES_ON, GOES_BACK):
            self.assertEqual(table_of(formula), closing(formula), formula)

    def test_values_of_words(self):
        # HEART (all orders): values of words, all of them in the table.
        random = Random(612)
        for formula in FORMULAS:
            table = table_of(formula)
            words = Words(formula, random)
            for _ in range(10):
                weave, told = words.grow()
                if told is not None:
                    words.known.append((weave, told))
                    self.assertIn(told, table)
            names, looks = tuple(sorted(names_in(formula))), looks_in(formula)
            letters = [letter_told(names, full) for full in full_letters(names, *looks)]
            for one, other in random.sample(list(product(letters, repeat=2)), min(3, len(letters) ** 2)):
                told = value_by_hand(formula, ("on", ("then", one, ("back", other))))
                if told is not None:
                    self.assertIn(told, table)

    def test_errors(self):
        for bad in odd_values() + list(BAD_PLACED):
            self.assertRaises(BadPlaced, table_of, bad)
            self.assertRaises(BadPlaced, is_bar_table, bad, None)
            self.assertRaises(BadPlaced, word_for, bad)
            self.assertRaises(BadPlaced, places_parted, bad, M)
            self.assertRaises(BadPlaced, places_parted, M, bad)
        for formula in THREE:
            for call in (table_of, lambda f: is_bar_table(f, None), word_for, lambda f: places_parted(f, M), lambda f: places_parted(M, f)):
                with self.assertRaises(TooMany) as caught:
                    call(formula)
                self.assertEqual(caught.exception.most, 2)


NO = ("both", M, NOT_M)
# There is a next place, or one right ahead, here and at each place behind, or ahead.
NEXT, PAST = ("until", NO, ALWAYS), ("since", NO, ALWAYS)
GOES_ON = ("both", NEXT, ("not", ("until", ALWAYS, ("not", NEXT))))
GOES_BACK = ("both", PAST, ("not", ("since", ALWAYS, ("not", PAST))))
NEVER = (
    ("until", M, ("both", M, NOT_M)), ("both", M, NOT_M), ("both", F, ("not", F)), ("until", ("both", N, ("not", N)), ("both", F, ("not", F))),
    ("both", ("until", ALWAYS, ("both", M, NOT_M)), ALWAYS),
    ("both", ("since", M, N), ("both", ("not", ("since", M, N)), M)),
)


class BarTables(TestCase):
    def test_what_holds_nowhere(self):
        for formula in NEVER:
            table = table_of(formula)
            self.assertIs(is_bar_table(formula, table), True)
            self.assertIsNone(word_for(formula))
            self.assertTrue(bars_by_hand(formula, table))

    def test_what_holds_somewhere(self):
        for formula in FORMULAS + tuple(placed_with(613, 2, 20)):
            table = table_of(formula)
            self.assertEqual(is_bar_table(formula, table), bars_by_hand(formula, table), formula)
            self.assertEqual(is_bar_table(formula, table), word_for(formula) is None)

    def test_one_value_left_out_or_put_in(self):
        random = Random(614)
        for formula in NEVER[:1] + NEVER[3:]:
            table = table_of(formula)
            for at in range(len(table)):
                self.assertIs(is_bar_table(formula, table[:at] + table[at + 1:]), False)
            laters, earliers = looks_in(formula)
            values = [pair for pair in product(product(range(4), range(1, 4)), repeat=len(laters) + len(earliers))]
            for one in random.sample(values, 12):
                wider = {*table, one}
                while True:
                    more = {then_value(formula, a, b) for a, b in product(wider, repeat=2)}
                    more |= {on_value(formula, a) for a in wider} | {back_value(formula, a) for a in wider}
                    more |= {mix_value(formula, tuple(sorted(lot))) for lot in lots_that_count(wider)}
                    more = wider | (more - {None})
                    if more == wider:
                        break
                    wider = more
                wider = tuple(sorted(wider))
                self.assertEqual(is_bar_table(formula, wider), bars_by_hand(formula, wider), (formula, one))
                if one not in table:
                    alone = tuple(sorted({*table, one}))
                    self.assertEqual(is_bar_table(formula, alone), alone == wider and bars_by_hand(formula, wider))

    def test_tables_closed_in_some_ways(self):
        left_out = {"then": 0, "on": 0, "back": 0, "mix": 0}
        for formula in FORMULAS[:9] + (FORMULAS[12], GOES_ON, GOES_BACK, ("until", NOT_M, NEXT)):
            formula = ("both", formula, NO)
            whole = closing(formula)
            self.assertIs(is_bar_table(formula, whole), True)
            for way in left_out:
                part = closing(formula, [other for other in left_out if other != way])
                self.assertIs(is_bar_table(formula, part), part == whole, (formula, way))
                left_out[way] += part != whole
        self.assertTrue(all(left_out.values()), left_out)

    def test_larger_tables_that_bar(self):
        # All values at which nothing is seen wrongly: more than those that come of letters.
        formula = ("both", M, NOT_M)
        self.assertIs(is_bar_table(formula, ((),)), True)
        self.assertIs(is_bar_table(formula, ()), False)
        formula = ("both", ("until", M, N), ("both", M, NOT_M))
        everything = tuple(((sees, fits),) for sees in range(4) for fits in range(1, 4))
        self.assertIs(is_bar_table(formula, everything), True)
        self.assertLess(len(table_of(formula)), len(everything) + 1)
        self.assertIs(is_bar_table(F, everything), False)

    def test_any_value(self):
        formula = NEVER[0]
        table = table_of(formula)
        for thing in odd_values() + list(spoiled(table)) + [
                list(table), table[::-1], table + table[-1:], table[:1] * 2, table[0], None, (Strange(),) * 3, tuple(list(one) for one in table)]:
            self.assertIs(is_bar_table(formula, thing), False)
        self.assertIs(is_bar_table(formula=formula, thing=table), True)


class WordFor(TestCase):
    def check(self, formula):
        told = word_for(formula)
        if told is not None:
            weave, spot = told
            self.assertTrue(is_weave(names_of(formula), weave))
            self.assertTrue(is_spot(names_of(formula), weave, spot))
            self.assertIs(there(names_of(formula), formula, weave, spot), True, formula)
        self.assertEqual(told is None, is_bar_table(formula, table_of(formula)))
        return told

    def test_example_by_hand(self):
        # [66]
        self.assertIsNone(word_for(("until", M, ("both", M, NOT_M))))
        self.assertEqual(word_for(("not", ("until", ALWAYS, ALWAYS))), (("letter", ()), ()))

    def test_each_formula(self):
        for formula in FORMULAS + NEVER:
            self.check(formula)
            self.check(("not", formula))
            self.check(mirrored(formula))

    def test_at_most_one_look(self):
        held = 0
        for formula in placed_with(615, 1, 120, "xyz"):
            held += self.check(formula) is not None
        self.assertGreater(held, 80)

    def test_two_looks(self):
        for formula in placed_with(616, 2, 60):
            try:
                told = self.check(formula)
            except TooMany as wrong:
                self.assertIn(wrong.most, (400, 60))
                continue
            if told is None:
                # Nothing holds at places of any word: none of these is one, at least.
                for weave in many_weaves(617, names_of(formula), 4, 10):
                    for spot in spots_by_hand(weave, 2):
                        self.assertFalse(there(names_of(formula), formula, weave, spot))

    def test_words_that_must_go_on(self):
        # There is a later place, and another one behind each; no first place; dense x.
        further = ("until", ALWAYS, ALWAYS)
        for formula in (
            ("both", further, ("not", ("until", ALWAYS, ("not", further)))), ("both", ("since", ALWAYS, ALWAYS), ("not", ("since", ALWAYS, ("not", ("since", ALWAYS, ALWAYS))))),
            ("both", ("until", ALWAYS, M), ("not", ("until", NOT_M, M))), ("both", ("since", ALWAYS, M), ("not", ("since", NOT_M, M))),
            ("both", ("until", M, ALWAYS), ("both", M, NOT_M)),
        ):
            told = self.check(formula)
            self.assertEqual(told is None, formula[2] == ("both", M, NOT_M))
        for formula in (GOES_ON, GOES_BACK, ("both", GOES_ON, M), ("both", GOES_BACK, NOT_M)):
            self.assertIsNotNone(self.check(formula))


class Parted(TestCase):
    def check(self, one, other):
        told = places_parted(one, other)
        if told is None:
            return None
        weave, spot = told
        scope = tuple(sorted(names_in(one) | names_in(other)))
        self.assertTrue(is_weave(scope, weave))
        self.assertTrue(is_spot(scope, weave, spot))
        self.assertNotEqual(there(scope, one, weave, spot), there(scope, other, weave, spot))
        return told

    def test_twins(self):
        for one, other in TWINS:
            self.assertIsNone(places_parted(one, other), (one, other))
            self.assertIsNone(places_parted(other, one))

    def test_unlike(self):
        for one, other in UNLIKE:
            self.assertIsNotNone(self.check(one, other))
            self.assertIsNotNone(self.check(other, one))

    def test_any_two(self):
        random = Random(618)
        formulas = placed_with(619, 1, 30) + placed_with(620, 0, 10)
        parted = 0
        for _ in range(120):
            one, other = random.choice(formulas), random.choice(formulas)
            try:
                told = self.check(one, other)
            except TooMany as wrong:
                self.assertIn(wrong.most, (2, 400, 60))
                self.assertEqual(wrong.most == 2, len(set(sum(looks_in(one), ()) + sum(looks_in(other), ()))) > 2)
                continue
            parted += told is not None
            if told is None:
                for many in range(4):
                    for row in product(((), ("x",), ("y",), ("x", "y")), repeat=many):
                        for at in range(many):
                            self.assertEqual(row_holds(one, row, at), row_holds(other, row, at))
        self.assertGreater(parted, 40)

    def test_errors_in_order(self):
        z, w = ("mark", "z"), ("mark", "w")
        self.assertRaises(BadScope, places_parted, ("both", M, N), ("both", z, w))
        self.assertRaises(BadScope, places_parted, THREE[0], ("both", z, w))
        self.assertIsNotNone(self.check(("both", M, N), z))
        for one, other in ((("both", F, G), ("until", N, M)), (F, ("both", G, ("since", N, M))), (THREE[0], THREE[0])):
            with self.assertRaises(TooMany) as caught:
                places_parted(one, other)
            self.assertEqual(caught.exception.most, 2)
        self.assertIsNotNone(self.check(("both", F, G), ("either", F, G)))
        self.assertIsNone(places_parted(one=("both", F, G), other=("both", G, F)))
