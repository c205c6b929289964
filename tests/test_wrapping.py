"""[36]: words around words."""

from random import Random
from unittest import TestCase

from alongall.algebras import value
from alongall.chains import around
from alongall.errors import BadReader, BadSurroundings, BadWeave, TooMany
from alongall.least import least
from alongall.readers import takes
from alongall.weaves import is_weave, size
from alongall.weighing import classes
from alongall.wrapping import asked, wrapped
from tests.odd import Strange, odd_values, spoiled
from tests.oracles import lots_of_numbers, same_words
from tests.samples import A, NONE, X, Y, back, borne, bush, many_weaves, mix, on, ordered, tallied, then
from tests.test_chains import BAD_TURNS
from tests.test_lengths import READERS
from tests.test_making import BAD_WEAVES, deep
from tests.test_readers import ONE_X

SOME_PLACE = ("algebra", 2, ((0, 1), (1, 1)), (0, 1), (0, 1), (0, 0, 1, 1))


def wrapped_by_hand(reader, surroundings, weave):
    told = dict(classes(reader))
    for turn in surroundings:
        if turn[0] == "left":
            weave = ("then", told[turn[1]], weave)
        elif turn[0] == "right":
            weave = ("then", weave, told[turn[1]])
        elif turn[0] == "mix":
            weave = mix(weave, *[told[a] for a in turn[1]])
        else:
            weave = (turn[0], weave)
    return weave


def some_turns(random, met, many):
    found = []
    for _ in range(many):
        head = random.choice(("left", "right", "on", "back", "mix"))
        if head in ("on", "back"):
            found.append((head,))
        elif head == "mix":
            found.append((head, tuple(sorted(random.sample(met, random.randrange(len(met) + 1))))))
        else:
            found.append((head, random.choice(met)))
    return tuple(found)


class Wrapped(TestCase):
    def test_example_by_hand(self):
        # [38]
        self.assertEqual(wrapped(ONE_X, (("left", 1), ("on",)), A), on(then(X, A)))
        self.assertEqual(asked(ONE_X, (("left", 1),)), ("reader", ("x",), SOME_PLACE, (0, 1), (0,)))

    def test_each_turn(self):
        for turn, right in (
            (("left", 0), then(A, Y)), (("left", 2), then(back(X), Y)), (("right", 1), then(Y, X)), (("on",), on(Y)), (("back",), back(Y)),
            (("mix", ()), mix(Y)), (("mix", (1,)), mix(X, Y)), (("mix", (0, 1, 2)), mix(A, X, back(X), Y)),
        ):
            reader = ("reader", ("x", "y"), tallied(2), (0, 1, 0, 0), (1,))
            self.assertEqual(wrapped(reader, (turn,), Y), right)
        self.assertEqual(wrapped(ONE_X, (), A), A)
        # Equal parts are one.
        self.assertEqual(wrapped(ONE_X, (("mix", (0,)),), A), mix(A))
        self.assertEqual(wrapped(ONE_X, (("mix", (0, 1)),), X), mix(A, X))
        self.assertEqual(wrapped(ONE_X, (("mix", (2,)),), back(X)), mix(back(X)))

    def test_any_surroundings(self):
        random = Random(690)
        many = 0
        for reader in READERS:
            met = [element for element, _ in classes(reader)]
            for weave in many_weaves(691, reader[1], 3, 5):
                turns = some_turns(random, met, random.randrange(5))
                right = wrapped_by_hand(reader, turns, weave)
                if not is_weave(reader[1], right):
                    self.assertRaises(TooMany, wrapped, reader, turns, weave)
                    continue
                told = wrapped(reader, turns, weave)
                self.assertEqual(told, right)
                worth = value(reader[2], reader[1], reader[3], weave)
                self.assertEqual(value(reader[2], reader[1], reader[3], told), around(reader[2], turns, worth))
                self.assertIs(takes(asked(reader, turns), weave), takes(reader, told))
                many += 1
        self.assertGreater(many, 200)

    def test_too_many(self):
        reader = ONE_X
        for turns, weave, most in (
            ((("on",),), bush(399), None), ((("on",),) * 2, bush(399), 400), ((("left", 0),), bush(397), None), ((("left", 0),), bush(399), 400),
            ((("on",),) * 59, A, None), ((("on",),) * 60, A, 60), ((("on",),) * 100, A, 60), ((("mix", ()),) * 60, NONE, 60),
            ((("left", 2),) * 58, A, None), ((("left", 2),) * 59, A, 60), ((("right", 2),) * 100, bush(101), 400), ((("on",),) * 30, deep(31), 60),
            ((("left", 2),) * 100, bush(99), 60), ((("mix", (0, 1, 2)),) * 80, A, 60), ((("mix", (0, 1, 2)),) * 81, A, 400),
        ):
            if most is None:
                self.assertTrue(is_weave(("x",), wrapped(reader, turns, weave)))
                continue
            right = wrapped_by_hand(reader, turns, weave)
            with self.assertRaises(TooMany) as caught:
                wrapped(reader, turns, weave)
            self.assertEqual(caught.exception.most, most, (turns[:2], len(turns)))
            self.assertEqual(right is None, False)
        self.assertEqual(size(("x",), wrapped(reader, (("on",),), bush(399))), 400)

    def test_elements_that_are_not_met(self):
        reader = ("reader", (), tallied(7), (2,), (7,))
        self.assertEqual([element for element, _ in classes(reader)], [0, 2, 4, 6, 7])
        for element in range(8):
            for turn in (("left", element), ("right", element), ("mix", (element,)), ("mix", tuple(sorted({0, 2, element})))):
                for turns in ((turn,), (("on",), turn), (turn, ("back",))):
                    if element in (0, 2, 4, 6, 7):
                        self.assertTrue(is_weave((), wrapped(reader, turns, A)))
                        asked(reader, turns)
                    else:
                        self.assertRaises(BadSurroundings, wrapped, reader, turns, None)
                        self.assertRaises(BadSurroundings, asked, reader, turns)
        self.assertEqual(wrapped(reader, (("on",), ("back",), ("mix", ())), A), mix(back(on(A))))

    def test_errors_in_order(self):
        for bad in odd_values() + [ONE_X[:4]]:
            self.assertRaises(BadReader, wrapped, bad, None, None)
            self.assertRaises(BadReader, asked, bad, None)
        for bad in odd_values() + [(turn,) for turn in BAD_TURNS] + [(("on",),) * 101, [("on",)], ("on",), (Strange(),), (("left", Strange()),)]:
            if isinstance(bad, tuple) and len(bad) == 0:
                continue
            self.assertRaises(BadSurroundings, wrapped, ONE_X, bad, None)
            self.assertRaises(BadSurroundings, asked, ONE_X, bad)
        for bad in odd_values() + BAD_WEAVES + list(spoiled(on(A))):
            self.assertRaises(BadWeave, wrapped, ONE_X, (("on",),) * 100, bad)
        self.assertEqual(wrapped(reader=ONE_X, surroundings=(), weave=A), A)
        self.assertEqual(asked(reader=ONE_X, surroundings=()), ONE_X)


class Asked(TestCase):
    def test_each_reader(self):
        random = Random(692)
        for reader in READERS:
            met = [element for element, _ in classes(reader)]
            for _ in range(4):
                turns = some_turns(random, met, random.randrange(4))
                told = asked(reader, turns)
                self.assertEqual(least(told), told)
                right = reader[:4] + (tuple(a for a in range(reader[2][1]) if around(reader[2], turns, a) in reader[4]),)
                self.assertTrue(same_words(told, right))
                self.assertEqual(told, least(right))
        self.assertEqual(asked(ONE_X, ()), ONE_X)

    def test_finitely_many(self):
        # HEART (words around words): what tells two values apart, and how many readers asked tells.
        for reader in (ONE_X, ("reader", (), ordered(), (1,), (2,)), ("reader", ("x",), borne(1), (0, 1), (1,)), ("reader", (), tallied(3), (1,), (2,))):
            small = least(reader)
            met = list(range(small[2][1]))
            turns = [(turn, a) for turn in ("left", "right") for a in met] + [("on",), ("back",)] + [("mix", lot) for lot in lots_of_numbers(met)]
            found, waiting = {asked(small, ()): ()}, [()]
            while waiting:
                ahead = waiting.pop()
                for turn in turns:
                    told = asked(small, ahead + (turn,))
                    if told not in found:
                        found[told] = ahead + (turn,)
                        waiting.append(ahead + (turn,))
            self.assertLess(len(found), 40)
            for a in met:
                for b in met:
                    parted = any((around(small[2], way, a) in small[4]) != (around(small[2], way, b) in small[4]) for way in found.values())
                    self.assertEqual(parted, a != b)
