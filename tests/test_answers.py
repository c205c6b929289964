"""Readers of formulas and what rests on them: the answers are those that were put down; HEART (a sentence is an algebra)."""

from time import process_time
from unittest import TestCase

from alongall.compiling import reader_of
from alongall.errors import TooMany
from alongall.verdicts import verdict_in
from tests.answers import KINDS, digest, rows

PAIR = ("some", "p", ("some", "q", ("both", ("next", "p", "q"), ("both", ("sub", "p", "x"), ("sub", "q", "x")))))
PART = ("some", "p", ("both", ("sub", "p", "y"), ("both", ("not", ("sub", "y", "p")), ("not", ("ahead", "p", "p")))))
DENSE = ("some", "p", ("both", ("sub", "p", "x"), ("both", ("dense", "p"), ("both", ("not", ("ahead", "p", "p")), ("not", ("one", "p"))))))
SENTENCE = ("all", "x", ("either", ("some", "y", ("not", ("sub", "y", "x"))), ("dense", "x")))


def least_time(function, *arguments):
    """The least time of some calls, in seconds."""
    times = []
    for _ in range(5):
        begun = process_time()
        try:
            function(*arguments)
        except TooMany:
            pass
        times.append(process_time() - begun)
    return min(times)


class Answers(TestCase):
    def test_as_put_down(self):
        known = rows()
        self.assertGreater(len(known), 400)
        for at, (formula, right) in enumerate(known):
            self.assertEqual(digest(formula, known[at - 1][0]), right, formula)

    def test_refusals(self):
        for formula in (("both", PAIR, PART), ("either", PAIR, PART)):
            with self.assertRaises(TooMany) as caught:
                reader_of(formula)
            self.assertEqual(caught.exception.most, 14)

    def test_times(self):
        # Far more than is needed, so that a slow machine passes, but less than was needed once.
        self.assertLess(least_time(reader_of, PAIR), 0.020)
        self.assertLess(least_time(reader_of, ("both", PAIR, PART)), 0.060)
        self.assertLess(least_time(reader_of, DENSE), 0.013)
        for kind in KINDS:
            self.assertLess(least_time(verdict_in, SENTENCE, kind), 0.008)
            self.assertLess(least_time(verdict_in, ("both", SENTENCE, ("not", SENTENCE)), kind), 0.016)
            self.assertLess(least_time(verdict_in, ("either", SENTENCE, SENTENCE), kind), 0.016)
