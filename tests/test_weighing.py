"""[32]: least weaves."""

from random import Random
from unittest import TestCase

from alongall.algebras import value
from alongall.combining import contrary
from alongall.compiling import reader_of
from alongall.errors import BadReader, OtherScope, TooMany
from alongall.least import least
from alongall.readers import takes
from alongall.weaves import is_weave, size
from alongall.weighing import apart, classes, some_word
from tests.formulas import atoms
from tests.odd import odd_values
from tests.oracles import moved, same_words, walk_by_hand
from tests.samples import (
    A, ALGEBRAS, NONE, THREES, X, back, borne, led, letters_by_hand, mix, on, ordered, parts_by_hand, tallied, then,
)
from tests.test_combining import counted, no_z_and_five_x, pairs_met
from tests.test_least import NONE_AT_ALL
from tests.test_readers import ONE_X, many_readers

XYZ = ("x", "y", "z")


def weaves_by_nodes(scope, most):
    """All weaves of at most so many nodes, by the number of nodes."""
    rows = {1: sorted([NONE] + [("letter", letter) for letter in letters_by_hand(scope)])}
    for nodes in range(2, most + 1):
        found = [(head, part) for head in ("on", "back") for part in rows[nodes - 1]]
        for many in range(1, nodes - 1):
            found += [("then", one, other) for one in rows[many] for other in rows[nodes - 1 - many]]
        found += [("mix", parts) for parts in mixes_of(rows, nodes - 1, ())]
        rows[nodes] = sorted(found)
    return rows


def mixes_of(rows, nodes, ahead):
    """All ascending tuples of weaves with so many nodes together, behind some."""
    if nodes == 0:
        return [ahead] if ahead else []
    found = []
    for many in range(1, nodes + 1):
        for part in rows[many]:
            if not ahead or ahead[-1] < part:
                found += mixes_of(rows, nodes - many, ahead + (part,))
    return found


def least_by_hand(reader, most):
    """The least weave of each element that a weave of at most so many nodes has."""
    _, scope, algebra, starts, _ = reader
    found = {}
    for weaves in weaves_by_nodes(scope, most).values():
        for weave in sorted(weaves):
            found.setdefault(value(algebra, scope, starts, weave), weave)
    return found


def depth(weave):
    return 1 + max((depth(part) for part in parts_by_hand(weave)), default=0)


class Classes(TestCase):
    def test_example_by_hand(self):
        # [38]
        self.assertEqual(classes(ONE_X), ((0, A), (1, X), (2, back(X))))
        self.assertEqual(some_word(ONE_X), X)
        self.assertEqual(some_word(("reader", ("x",), tallied(2), (0, 1), (2,))), back(X))
        self.assertEqual(some_word(("reader", ("x",), tallied(2), (0, 1), (0, 1, 2))), A)

    def test_by_hand(self):
        self.assertEqual(classes(("reader", (), tallied(1), (1,), ())), ((0, NONE), (1, A)))
        self.assertEqual(classes(("reader", (), ordered(), (1,), ())), ((0, NONE), (1, A), (2, back(A)), (3, mix(A))))
        self.assertEqual(
            classes(("reader", (), tallied(3), (1,), ())), ((0, NONE), (1, A), (2, then(A, A)), (3, back(A))))
        self.assertEqual(classes(("reader", (), led(2), (3,), ())), ((0, NONE), (1, back(A)), (3, A)))
        self.assertEqual(classes(("reader", (), tallied(7), (0,), ())), ((0, A),))
        self.assertEqual(classes(("reader", (), tallied(7), (7,), (7,))), ((0, NONE), (7, A)))
        self.assertEqual(classes(("reader", (), NONE_AT_ALL, (0,), ())), ((0, A),))

    def test_all_weaves_of_few_nodes(self):
        for reader in many_readers(120, 40, ((), ("x",))) + many_readers(121, 12, ((),), ALGEBRAS):
            told = dict(classes(reader))
            right = least_by_hand(reader, 5 if reader[1] == () else 4)
            for element, weave in right.items():
                self.assertEqual(told[element], weave, reader)
            for element, weave in told.items():
                if element not in right:
                    self.assertGreater(size(reader[1], weave), 4)

    def test_readers_of_formulas(self):
        for formula in atoms(("x",)) + atoms(("x", "y")):
            reader = reader_of(formula)
            most = 4 if len(reader[1]) < 2 else 3
            told = dict(classes(reader))
            right = least_by_hand(reader, most)
            for element in range(reader[2][1]):
                if element in right:
                    self.assertEqual(told[element], right[element], formula)
                else:
                    self.assertGreater(size(reader[1], told[element]), most)

    def test_either_way_round(self):
        y = ("letter", ("y",))
        for one, other, first, last in (("x", "y", X, y), ("y", "x", y, X)):
            self.assertEqual(some_word(reader_of(("next", one, other))), then(first, last))

    def test_fewer_nodes_first(self):
        # then of two letters has 3 nodes, a mix of three letters 4, one of two letters 3.
        scope = ("x", "y")
        table = tallied(2)
        starts = (0, 1, 1, 1)
        self.assertEqual(some_word(("reader", scope, table, starts, (2,))), back(X))
        self.assertEqual(some_word(("reader", scope, borne(2), (0, 1, 2, 0), (3,))), mix(X, ("letter", ("y",))))
        self.assertEqual(some_word(("reader", scope, borne(3), (1, 2, 4, 0), (7,))), mix(A, X, ("letter", ("y",))))
        self.assertEqual(some_word(("reader", (), tallied(3), (1,), (2,))), then(A, A))

    def test_just_what_is_met(self):
        for reader in many_readers(122, 60) + many_readers(123, 20, algebras=ALGEBRAS):
            _, scope, algebra, starts, _ = reader
            told = classes(reader)
            met = sorted(thing[0] for thing in walk_by_hand((algebra,), [(start,) for start in starts]))
            self.assertEqual([element for element, _ in told], met)
            for element, weave in told:
                self.assertTrue(is_weave(scope, weave))
                self.assertEqual(value(algebra, scope, starts, weave), element)

    def test_made_of_weaves_in_classes(self):
        # The FACT, with its bounds.
        random = Random(124)
        for _ in range(60):
            algebra = random.choice(ALGEBRAS + THREES)
            scope = random.choice(((), ("x",), ("x", "y"), XYZ))
            reader = ("reader", scope, algebra, tuple(random.randrange(algebra[1]) for _ in range(1 << len(scope))), ())
            weaves = [weave for _, weave in classes(reader)]
            many = algebra[1]
            for weave in weaves:
                self.assertTrue(all(part in weaves for part in parts_by_hand(weave)))
                if many > 1:
                    self.assertLess(size(scope, weave), 2 ** (many - 1))
                    self.assertLessEqual(depth(weave), many)

    def test_errors(self):
        for bad in odd_values() + [ONE_X[:4], ONE_X + (0,)]:
            self.assertRaises(BadReader, classes, bad)
            self.assertRaises(BadReader, some_word, bad)
        self.assertEqual(classes(reader=ONE_X)[1][1], some_word(reader=ONE_X))


class SomeWord(TestCase):
    def test_least_taken(self):
        for reader in many_readers(125, 80) + many_readers(126, 20, algebras=ALGEBRAS):
            told = [(size(reader[1], weave), weave) for element, weave in classes(reader) if element in reader[4]]
            word = some_word(reader)
            if told:
                self.assertEqual(word, min(told)[1])
                self.assertTrue(takes(reader, word))
            else:
                self.assertIsNone(word)

    def test_none(self):
        self.assertIsNone(some_word(("reader", (), tallied(2), (1,), ())))
        self.assertIsNone(some_word(("reader", (), tallied(7), (0,), (1, 2, 3, 4, 5, 6, 7))))
        self.assertIsNone(some_word(("reader", ("x",), borne(3), (1, 2), (4, 5, 6, 7))))
        self.assertEqual(some_word(("reader", ("x",), borne(3), (1, 2), (3, 4))), mix(A, X))


class Apart(TestCase):
    def test_example_by_hand(self):
        self.assertEqual(apart(("reader", ("x",), tallied(2), (0, 1), (2,)), ONE_X), X)
        self.assertIsNone(apart(ONE_X, ONE_X))
        self.assertEqual(apart(ONE_X, contrary(ONE_X)), A)

    def test_least_of_all(self):
        for scope in ((), ("x",)):
            readers = many_readers(127, 16, (scope,))
            rows = weaves_by_nodes(scope, 4)
            for one in readers:
                for other in readers[::3]:
                    told = apart(one, other)
                    self.assertEqual(told is None, same_words(one, other))
                    right = [weave for nodes in rows for weave in rows[nodes] if takes(one, weave) != takes(other, weave)]
                    if right:
                        self.assertEqual(told, right[0])
                    elif told is not None:
                        self.assertGreater(size(scope, told), 4)
                        self.assertNotEqual(takes(one, told), takes(other, told))

    def test_alike_in_other_seats(self):
        random = Random(128)
        for reader in many_readers(129, 40):
            many = reader[2][1]
            order = [0] + random.sample(range(1, many), many - 1)
            other = moved(reader, order)
            self.assertIsNone(apart(reader, other))
            self.assertIsNone(apart(other, least(reader)))

    def test_fourteen_pairs_and_more(self):
        one = no_z_and_five_x()
        other = ("reader", XYZ, borne(2), (0, 0, 1, 1, 2, 2, 3, 3), (3,))
        self.assertEqual(pairs_met(one, other), 14)
        told = apart(one, other)
        self.assertNotEqual(takes(one, told), takes(other, told))
        right = [
            weave for weaves in weaves_by_nodes(XYZ, 3).values() for weave in sorted(weaves) if takes(one, weave) != takes(other, weave)]
        self.assertEqual(told, right[0])
        for one, other in ((counted("x", 2, (2,)), counted("y", 4, (4,))), (counted("x", 7, (7,)), counted("y", 7, (7,)))):
            with self.assertRaises(TooMany) as caught:
                apart(one, other)
            self.assertEqual(caught.exception.most, 14)

    def test_more_than_eight_pairs(self):
        one, other = counted("x", 2, (2,)), counted("y", 3, (3,))
        self.assertEqual(pairs_met(one, other), 12)
        told = apart(one, other)
        self.assertEqual(told, back(X))
        told = apart(counted("x", 2, (1, 2)), counted("x", 2, (1,)))
        self.assertEqual(told, back(X))

    def test_readers_of_formulas(self):
        well, scattered = reader_of(("well", "x")), reader_of(("scattered", "x"))
        self.assertEqual(apart(well, scattered), back(X))
        self.assertEqual(apart(reader_of(("dense", "x")), scattered), back(X))
        self.assertEqual(apart(scattered, ("reader", ("x",), NONE_AT_ALL, (0, 0), (0,))), mix(X))
        self.assertEqual(apart(reader_of(("finite", "x")), well), on(X))

    def test_errors_in_order(self):
        other = counted("y", 7, (7,), ("y",))
        for bad in odd_values() + [ONE_X[:4]]:
            self.assertRaises(BadReader, apart, bad, bad)
            self.assertRaises(BadReader, apart, ONE_X, bad)
        self.assertRaises(OtherScope, apart, ONE_X, other)
        self.assertRaises(OtherScope, apart, counted("x", 7, (7,)), counted("y", 7, (7,), XYZ))
        self.assertIsNone(apart(one=ONE_X, other=ONE_X))
