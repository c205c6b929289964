"""[53], [56]: rounds formulas."""

from itertools import product
from random import Random
from unittest import TestCase

from alongall.asrounds import as_rounds
from alongall.compiling import reader_of
from alongall.deciding import means
from alongall.errors import BadRounds, BadScope, TooMany
from alongall.formulas import is_formula, nodes_in
from alongall.roundforms import in_sets, is_rounds, loose, rounds_of
from alongall.sayings import so
from alongall.weaves import written
from tests.formulas import holds, sets_of
from tests.odd import Strange, doubled, nested, odd_values, spoiled
from tests.oracles import round_holds
from tests.samples import letters_by_hand, many_weaves
from tests.test_asrounds import count_nodes, depth, free_places
from tests.test_parting import count, most_free
from tests.test_placed import many_placed

B, C = ("bears", "p", "x"), ("before", "p", "q")
SAME = ("same", "p", "q")
XY = ("x", "y")


def any_rounds(random, deep, places=("p", "q", "r"), marks=("x", "y")):
    """Some rounds formula."""
    head = random.choice(("atom", "not", "both", "either", "some", "all", "some", "all")) if deep > 1 else "atom"
    if head == "atom":
        if random.randrange(2):
            return ("bears", random.choice(places), random.choice(marks))
        return (random.choice(("before", "same")), random.choice(places), random.choice(places))
    if head in ("some", "all"):
        return (head, random.choice(places), any_rounds(random, deep - 1, places, marks))
    return (head,) + tuple(any_rounds(random, deep - 1, places, marks) for _ in range(1 if head == "not" else 2))


def many_rounds(seed, deep, many, places=("p", "q", "r"), marks=("x", "y")):
    random = Random(seed)
    return [any_rounds(random, deep, places, marks) for _ in range(many)]


def closed(formula, how):
    for name in sorted(free_places(formula)):
        formula = (how, name, formula)
    return formula


def closed_rounds(seed, deep, many, places=("p", "q", "r"), marks=("x", "y")):
    """Some rounds formulas without free names."""
    return [closed(formula, ("some", "all")[at % 2]) for at, formula in enumerate(many_rounds(seed, deep, many, places, marks))]


def rounds_by_hand(formula):
    if formula[0] in ("bears", "before", "same"):
        return 0
    if formula[0] in ("some", "all"):
        return 1 + rounds_by_hand(formula[2])
    return max(rounds_by_hand(part) for part in formula[1:])


def sets_by_hand(formula):
    """[56]."""
    head = formula[0]
    if head == "bears":
        return ("sub", formula[1], formula[2])
    if head == "before":
        return ("ahead", formula[1], formula[2])
    if head == "same":
        return ("both", ("sub", formula[1], formula[2]), ("sub", formula[2], formula[1]))
    if head == "some":
        return (head, formula[1], ("both", ("one", formula[1]), sets_by_hand(formula[2])))
    if head == "all":
        return (head, formula[1], ("either", ("not", ("one", formula[1])), sets_by_hand(formula[2])))
    return (head,) + tuple(sets_by_hand(part) for part in formula[1:])


def bush_of(many):
    """A rounds formula of an odd number of nodes that is not deep."""
    if many == 1:
        return C
    half = (many - 1) // 2
    half = half if half % 2 else half + 1
    return ("both", bush_of(half), bush_of(many - 1 - half))


def nots(many, formula):
    for _ in range(many):
        formula = ("not", formula)
    return formula


class IsRounds(TestCase):
    def test_right_ones(self):
        for formula in (
            B, C, SAME, ("same", "p", "p"), ("before", "p", "p"), ("not", B), ("both", B, C), ("either", SAME, C), ("some", "p", C), ("all", "q", B),
            ("some", "q", B), ("some", "p", ("some", "p", B)), ("both", B, ("bears", "q", "x")), ("both", B, ("bears", "p", "y")),
            ("some", "abcdefgh", ("bears", "abcdefgh", "x")),
        ):
            self.assertIs(is_rounds(formula), True, formula)
        for formula in many_rounds(630, 5, 100):
            self.assertIs(is_rounds(formula), True)

    def test_names_of_both_kinds(self):
        for formula in (
            ("bears", "p", "p"), ("both", B, ("bears", "x", "y")), ("both", B, ("before", "x", "q")), ("both", ("same", "q", "x"), B),
            ("some", "x", B), ("all", "x", B), ("both", B, ("some", "x", C)), ("both", B, ("not", ("all", "x", ("before", "q", "q")))),
            ("either", ("bears", "q", "p"), B), ("some", "p", ("bears", "q", "p")),
        ):
            self.assertIs(is_rounds(formula), False, formula)
            self.assertRaises(BadRounds, loose, formula)

    def test_bounds(self):
        self.assertIs(is_rounds(bush_of(3999)), True)
        self.assertIs(is_rounds(("not", bush_of(3999))), True)
        self.assertIs(is_rounds(("not", ("not", bush_of(3999)))), False)
        self.assertIs(is_rounds(bush_of(4001)), False)
        self.assertIs(is_rounds(nots(59, B)), True)
        self.assertIs(is_rounds(nots(60, B)), False)
        told = B
        for at in range(59):
            told = (("some", "all")[at % 2], "pqr"[at % 3], told)
        self.assertIs(is_rounds(told), True)
        self.assertEqual(rounds_of(told), 59)
        self.assertIs(is_rounds(("not", told)), False)
        self.assertIs(is_rounds(("both", B, nots(58, C))), True)
        self.assertIs(is_rounds(("both", B, nots(59, C))), False)

    def test_any_value(self):
        right = ("some", "p", ("both", B, ("not", C)))
        for thing in odd_values() + list(spoiled(right)) + [
                doubled("both", B, 90), nested("not", 100000), ("bears", "p"), ("bears", "p", "x", "y"), ("before", "p"), ("same", "p", 1), ("not", B, B),
                ("both", B), ("some", B), ("some", "p"), ("some", "p", B, B), ("all", ("p",), B), ("mark", "x"), ("sub", "p", "x"), ("one", "p"),
                ("until", B, B), ("bears", "all", "x"), ("bears", "p", "same"), ("some", "next", B), ("bears", Strange(), "x"), ("same", "p", Strange()),
                ("some", Strange(), B), ["not", B], ("ahead", "p", "q")]:
            self.assertIs(is_rounds(thing), False)
            for function in (loose, rounds_of, in_sets):
                self.assertRaises(BadRounds, function, thing)
        self.assertIs(is_rounds(thing=right), True)


class Names(TestCase):
    def test_loose(self):
        for formula, right in (
            (B, ("p",)), (C, ("p", "q")), (("before", "q", "p"), ("p", "q")), (("some", "p", B), ()), (("all", "q", B), ("p",)), (("some", "p", C), ("q",)),
            (("both", B, ("some", "p", C)), ("p", "q")), (("both", ("some", "p", B), ("some", "q", C)), ("p",)), (("some", "p", ("all", "p", C)), ("q",)),
            (("both", ("before", "z", "a"), ("bears", "m", "x")), ("a", "m", "z")), (("some", "p", ("both", B, ("some", "p", B))), ()),
            (("either", ("before", "a", "b"), ("before", "c", "d")), ("a", "b", "c", "d")),
        ):
            self.assertEqual(loose(formula), right)
        for formula in many_rounds(631, 5, 100):
            self.assertEqual(loose(formula), tuple(sorted(free_places(formula))))

    def test_rounds_of(self):
        for formula, right in (
            (B, 0), (("some", "p", B), 1), (("not", ("all", "p", B)), 1), (("both", ("some", "p", B), ("all", "q", ("some", "p", C))), 2),
            (("both", ("some", "p", B), ("some", "p", B)), 1), (("some", "p", ("some", "p", ("some", "p", B))), 3),
        ):
            self.assertEqual(rounds_of(formula), right)
        for formula in many_rounds(632, 6, 100):
            self.assertEqual(rounds_of(formula), rounds_by_hand(formula))
        self.assertEqual(loose(formula=B), ("p",))
        self.assertEqual(rounds_of(formula=B), 0)
        self.assertLessEqual(depth(bush_of(99)), 10)
        self.assertEqual(count_nodes(bush_of(99)), 99)


class InSets(TestCase):
    def test_each_kind(self):
        self.assertEqual(in_sets(B), ("sub", "p", "x"))
        self.assertEqual(in_sets(C), ("ahead", "p", "q"))
        self.assertEqual(in_sets(SAME), ("both", ("sub", "p", "q"), ("sub", "q", "p")))
        self.assertEqual(in_sets(("not", B)), ("not", ("sub", "p", "x")))
        self.assertEqual(in_sets(("both", B, C)), ("both", ("sub", "p", "x"), ("ahead", "p", "q")))
        self.assertEqual(in_sets(("either", B, C)), ("either", ("sub", "p", "x"), ("ahead", "p", "q")))
        self.assertEqual(in_sets(("some", "p", B)), ("some", "p", ("both", ("one", "p"), ("sub", "p", "x"))))
        self.assertEqual(in_sets(("all", "p", B)), ("all", "p", ("either", ("not", ("one", "p")), ("sub", "p", "x"))))

    def test_bounds(self):
        seen = set()
        for formula in many_rounds(633, 6, 400) + many_rounds(634, 8, 200, ("p", "q"), ("x",)):
            right = sets_by_hand(formula)
            if most_free(right) > 3:
                self.assertRaises(BadScope, in_sets, formula)
                seen.add("scope")
            elif count(right) > 60:
                with self.assertRaises(TooMany) as caught:
                    in_sets(formula)
                self.assertEqual(caught.exception.most, 60)
                seen.add("nodes")
            else:
                self.assertEqual(in_sets(formula), right)
                self.assertTrue(is_formula(right))
                seen.add("told")
        self.assertEqual(seen, {"scope", "nodes", "told"})

    def test_just_60_nodes(self):
        for formula, right in (
            (nots(59, B), 60), (nots(57, SAME), 60), (nots(58, SAME), 61), (nots(57, ("some", "p", B)), 61), (nots(56, ("some", "p", B)), 60),
            (nots(55, ("all", "p", B)), 60), (nots(56, ("all", "p", B)), 61), (("not", bush_of(59)), 60), (bush_of(61), 61),
        ):
            self.assertTrue(is_rounds(formula))
            if right == 60:
                self.assertEqual(nodes_in(in_sets(formula)), 60)
            else:
                self.assertRaises(TooMany, in_sets, formula)
        four = ("both", ("before", "a", "b"), ("before", "c", "d"))
        self.assertRaises(BadScope, in_sets, four)
        self.assertRaises(BadScope, in_sets, ("both", four, bush_of(999)))
        self.assertRaises(BadScope, in_sets, ("some", "a", ("all", "b", four)))
        self.assertTrue(is_formula(in_sets(("both", ("before", "a", "b"), ("before", "c", "c")))))
        # A mark is free, too.
        self.assertRaises(BadScope, in_sets, ("both", ("before", "a", "b"), ("both", ("bears", "a", "x"), ("bears", "b", "y"))))

    def test_deep_ones(self):
        told = B
        for at in range(59):
            told = ("some", "p", told)
        self.assertRaises(TooMany, in_sets, told)
        told = ("both", B, ("bears", "q", "y"))
        for at in range(58):
            told = ("all", "r", told)
        self.assertRaises(BadScope, in_sets, told)

    def test_finite_words(self):
        for formula in closed_rounds(635, 4, 60, ("p", "q")):
            try:
                told = in_sets(formula)
            except (BadScope, TooMany):
                continue
            for many in range(3):
                for row in product(letters_by_hand(XY), repeat=many):
                    self.assertEqual(holds(told, many, sets_of(XY, row)), round_holds(formula, row, {}), (formula, row))

    def test_all_words(self):
        # FACT: a sentence is so exactly if the formula holds.
        many = 0
        for formula in closed_rounds(636, 4, 80, ("p", "q")):
            try:
                told = in_sets(formula)
                reader_of(told)
            except (BadScope, TooMany):
                continue
            for weave in many_weaves(637, XY, 4, 4):
                self.assertIs(means(told, XY, weave), so(XY, formula, weave), (formula, weave))
                many += 1
        self.assertGreater(many, 50)

    def test_told_places_formulas(self):
        for formula in many_placed(638, 2, 10):
            told = as_rounds(formula, "p")
            self.assertTrue(is_rounds(told))
            try:
                self.assertEqual(in_sets(told), sets_by_hand(told))
            except (BadScope, TooMany):
                pass
        self.assertEqual(in_sets(formula=B), ("sub", "p", "x"))
        self.assertEqual(written((), ()), ("none",))
