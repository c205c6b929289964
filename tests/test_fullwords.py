"""[63]: values of words of full letters."""

from itertools import combinations, product
from random import Random
from unittest import TestCase

from alongall.errors import BadFull, BadLot, BadPlaced, BadValue, TooMany
from alongall.fullwords import back_value, mix_value, on_value, then_value, value_of
from tests.fullness import FORMULAS, M, N, THREE, full_letters, letter_told, looks_in, names_in, row_of, value_by_hand
from tests.odd import odd_values, spoiled
from tests.samples import NONE, back, mix, on, then

F = ("until", M, N)
G = ("since", M, N)
BAD_PLACED = (
    ("mark", "X"), ("mark", "all"), ("mark",), ("not", M, M), ("until", M), ["mark", "x"], ("some", M, M), ("both", M, ("mark", 1)),
    ("either", ("both", M, N), ("both", ("mark", "z"), ("mark", "w"))), ("bears", "x", "y"),
)


def nothing(formula):
    laters, earliers = looks_in(formula)
    return ((1, 3),) * len(laters + earliers)


def letters_of(formula):
    names = tuple(sorted(names_in(formula)))
    return [(full, letter_told(names, full)) for full in full_letters(names, *looks_in(formula))]


class Words:
    """Words of a formula with the values that the functions tell."""

    def __init__(self, formula, random):
        self.formula, self.random = formula, random
        self.known = [(NONE, nothing(formula))] + [(letter, value_of(formula, full)) for full, letter in letters_of(formula)]

    def grow(self):
        """One more word with its value, perhaps None."""
        head = self.random.choice(("then", "then", "on", "back", "mix"))
        (one, first), (other, second) = self.random.choice(self.known), self.random.choice(self.known)
        if head == "then":
            return then(one, other), then_value(self.formula, first, second)
        if head == "mix":
            return mix(one, other), mix_value(self.formula, tuple(sorted({first, second})))
        return (head, one), (on_value if head == "on" else back_value)(self.formula, first)


class Values(TestCase):
    def test_example_by_hand(self):
        # [66]
        self.assertEqual(value_of(F, ((0, 0), (0,), ())), ((0, 1),))
        self.assertEqual(value_of(F, ((0, 0), (1,), ())), ((0, 2),))
        self.assertEqual(value_of(formula=F, letter=((1, 1), (1,), ())), ((3, 2),))
        self.assertEqual(value_of(G, ((1, 0), (), (0,))), ((1, 1),))
        self.assertEqual(value_of(("both", G, F), ((0, 1), (1,), (0,))), ((2, 2), (2, 1)))
        self.assertEqual(value_of(M, ((1,), (), ())), ())

    def test_each_letter(self):
        for formula in FORMULAS:
            for full, letter in letters_of(formula):
                self.assertEqual(value_of(formula, full), value_by_hand(formula, letter), (formula, full))

    def test_nothing_beside_each(self):
        for formula in FORMULAS:
            none = nothing(formula)
            self.assertEqual(on_value(formula, none), none)
            self.assertEqual(back_value(formula, none), none)
            self.assertEqual(mix_value(formula, (none,)), none)
            for full, _ in letters_of(formula):
                one = value_of(formula, full)
                self.assertEqual(then_value(formula, one, none), one)
                self.assertEqual(then_value(formula, none, one), one)
                self.assertEqual(mix_value(formula, tuple(sorted({none, one}))), mix_value(formula, (one,)))

    def test_short_words(self):
        for formula in FORMULAS:
            letters = letters_of(formula)
            for many in (2, 3):
                for row in Random(520).sample(list(product(letters, repeat=many)), 14 if len(letters) > 2 else 4):
                    told = value_of(formula, row[0][0])
                    for full, _ in row[1:]:
                        told = None if told is None else then_value(formula, told, value_of(formula, full))
                    self.assertEqual(told, value_by_hand(formula, row_of([letter for _, letter in row])), (formula, row))

    def test_endless_words(self):
        random = Random(521)
        worths = set()
        for formula in FORMULAS:
            words = Words(formula, random)
            for _ in range(36):
                weave, told = words.grow()
                self.assertEqual(told, value_by_hand(formula, weave), (formula, weave))
                if told is not None:
                    worths.update(told)
                    if len(str(weave)) < 110:
                        words.known.append((weave, told))
        self.assertGreater(len(worths), 9)

    def test_mixes_of_three(self):
        random = Random(522)
        for formula in FORMULAS[2:12]:
            known = Words(formula, random).known[1:]
            for parts in random.sample(list(combinations(known, 3)), min(6, len(list(combinations(known, 3))))):
                told = mix_value(formula, tuple(sorted({one for _, one in parts})))
                self.assertEqual(told, value_by_hand(formula, mix(*[weave for weave, _ in parts])), (formula, parts))

    def test_each_pair(self):
        # What is told of pairs of one look, 12 of them, by and by: a word of such a value need not be there.
        pairs = [((sees, fits),) for sees in range(4) for fits in range(1, 4)]
        for one, other in product(pairs, repeat=2):
            (sees, fits), (more, right) = one[0], other[0]
            due = {d: (more >> 1) | (more & 1 & d) for d in (0, 1)}
            both = sum(1 << d for d in (0, 1) if right >> d & 1 and fits >> due[d] & 1)
            seen = (sees & more & 1) + (2 if sees & 2 or (sees & 1 and more & 2) else 0)
            self.assertEqual(then_value(F, one, other), ((seen, both),) if both else None)
            self.assertEqual(then_value(G, other, one), ((seen, both),) if both else None)
        for one in pairs:
            self.assertEqual(on_value(F, one), back_value(G, one))
            self.assertEqual(back_value(F, one), on_value(G, one))
            self.assertEqual(mix_value(F, (one,)), mix_value(G, (one,)))
        # True at all places and a goal at each end: a look from there is due always.
        self.assertEqual(on_value(F, ((3, 2),)), ((3, 3),))
        self.assertEqual(on_value(F, ((3, 1),)), None)
        self.assertEqual(on_value(F, ((2, 2),)), ((2, 3),))
        self.assertEqual(on_value(G, ((2, 2),)), ((0, 2),))
        self.assertEqual(on_value(G, ((2, 3),)), ((0, 3),))
        self.assertEqual(on_value(G, ((3, 2),)), ((3, 2),))
        self.assertEqual(mix_value(F, (((2, 3),), ((3, 3),))), ((0, 3),))
        self.assertEqual(mix_value(F, (((1, 3),), ((3, 2),))), ((3, 3),))
        self.assertEqual(mix_value(F, (((0, 1),), ((3, 2),))), None)

    def test_two_looks_do_not_meddle(self):
        both = ("both", F, G)
        pairs = [(sees, fits) for sees in range(4) for fits in range(1, 4)]
        for a, b, c, d in Random(523).sample(list(product(pairs, repeat=4)), 300):
            first, second = then_value(F, (a,), (c,)), then_value(G, (b,), (d,))
            self.assertEqual(then_value(both, (a, b), (c, d)), first + second if first and second else None)
            lot = tuple(sorted({(a, b), (c, d)}))
            first, second = [mix_value(f, tuple(sorted({(one[k],) for one in lot}))) for k, f in enumerate((F, G))]
            self.assertEqual(mix_value(both, lot), first + second if first and second else None)


class Errors(TestCase):
    def calls(self, formula):
        return (
            lambda x: value_of(formula, x), lambda x: then_value(formula, x, x), lambda x: on_value(formula, x),
            lambda x: back_value(formula, x), lambda x: mix_value(formula, x))

    def test_no_formula(self):
        for bad in odd_values() + list(BAD_PLACED):
            for call in self.calls(bad):
                self.assertRaises(BadPlaced, call, None)

    def test_too_many(self):
        for formula in THREE:
            for call in self.calls(formula):
                for thing in (None, (), ((1, 3),) * 3):
                    with self.assertRaises(TooMany) as caught:
                        call(thing)
                    self.assertEqual(caught.exception.most, 2)
        # The same look several times is one.
        self.assertEqual(value_of(("both", F, ("both", F, ("both", F, G))), ((0, 0), (0,), (0,))), ((0, 1), (0, 1)))

    def test_full_letters(self):
        right = ((0, 1), (1,), ())
        for bad in odd_values() + list(spoiled(right)) + [
                ((0, 1), (1,)), ((0, 1), (), (1,)), ((0,), (1,), ()), ((0, 1, 1), (1,), ()), ((0, 2), (1,), ()), ((0, 1), (1,), (0,)),
                ((0, True), (1,), ()), [(0, 1), (1,), ()]]:
            self.assertRaises(BadFull, value_of, F, bad)

    def test_values(self):
        right = ((1, 3),)
        for bad in odd_values() + list(spoiled(right)) + [
                (), ((1, 3), (1, 3)), ((4, 3),), ((1, 0),), ((1, 4),), ((-1, 1),), ((True, 1),), ((0, True),), ((1,),), ((1, 3, 0),), [(1, 3)],
                ([1, 3],)]:
            self.assertRaises(BadValue, on_value, F, bad)
            self.assertRaises(BadValue, back_value, F, bad)
            self.assertRaises(BadValue, then_value, F, bad, None)
            self.assertRaises(BadValue, then_value, F, right, bad)
        self.assertRaises(BadValue, on_value, ("both", F, G), right)
        self.assertRaises(BadValue, on_value, M, right)
        self.assertEqual(on_value(formula=M, one=()), ())
        self.assertEqual(back_value(formula=M, one=()), ())
        self.assertEqual(then_value(formula=M, one=(), other=()), ())

    def test_lots(self):
        one, other = ((0, 1),), ((0, 2),)
        for bad in odd_values() + [(), (other, one), (one, one), [one], one, (one, None), (one, ((0, 0),)), ((one, other),)]:
            self.assertRaises(BadLot, mix_value, F, bad)
        for bad in spoiled((one, other)):
            self.assertRaises(BadLot, mix_value, F, bad)
        self.assertEqual(mix_value(formula=M, lot=((),)), ())
