"""Answers to questions about formulas, put down in answers.txt when readers were made in a slower way."""

from hashlib import sha256
from pathlib import Path

from alongall.compiling import reader_of
from alongall.deciding import follows, means, shown
from alongall.errors import OrderError
from alongall.placing import where
from alongall.texts import formula_of
from alongall.verdicts import verdict_in
from tests.formulas import free_by_hand
from tests.samples import A, NONE, back, letters_by_hand, mix, on, then

KINDS = ("finite", "well", "backwell", "scattered", "any")
FILE = Path(__file__).resolve().parent / "answers.txt"


def told(function, *arguments):
    """What a function tells, or its refusal."""
    try:
        return function(*arguments)
    except OrderError as wrong:
        return type(wrong).__name__, getattr(wrong, "most", None), getattr(wrong, "name", None)


def words_for(scope):
    """Some words of a scope: none, finite, endless, dense."""
    letters = [("letter", letter) for letter in letters_by_hand(scope)]
    first, last = letters[0], letters[-1]
    return (NONE, then(first, last, first), on(then(last, first)), then(back(last), first, on(last)), mix(first, last, on(first)), on(back(mix(last, A))))


def answers(formula, other):
    """All answers about a formula, another one beside it."""
    scope = tuple(sorted(free_by_hand(formula)))
    found = [told(reader_of, formula)]
    for weave in words_for(scope):
        found.append(told(means, formula, scope, weave))
        if formula[0] in ("some", "all"):
            found.append(told(shown, formula, scope, weave))
        found.extend(told(where, formula, name, scope, weave) for name in scope)
    found.extend([told(follows, formula, other), told(follows, other, formula)])
    found.extend(told(verdict_in, formula, kind) for kind in KINDS)
    return found


def digest(formula, other):
    return sha256(repr(answers(formula, other)).encode()).hexdigest()[:16]


def rows():
    """The formulas put down, each with the digest of its answers."""
    found = []
    for line in FILE.read_text().splitlines():
        text, told_then = line.rsplit(" # ", 1)
        found.append((formula_of(text), told_then))
    return found
