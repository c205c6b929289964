"""Slow readings of [63]: values of words of full letters, place by place."""

from itertools import product

from tests.oracles import Places
from tests.samples import then

START, END = ("letter", ("START",)), ("letter", ("END",))
ALWAYS = ("either", ("mark", "x"), ("not", ("mark", "x")))


def looks_in(formula):
    """A pair: the unlike formulas in it that begin with until, with since, ascending."""
    found = {"until": set(), "since": set()}

    def go(part):
        if part[0] != "mark":
            if part[0] in found:
                found[part[0]].add(part)
            for inner in part[1:]:
                go(inner)

    go(formula)
    return tuple(sorted(found["until"])), tuple(sorted(found["since"]))


def names_in(formula):
    if formula[0] == "mark":
        return {formula[1]}
    return set().union(*[names_in(part) for part in formula[1:]])


def full_letters(names, laters, earliers):
    """All full letters."""
    return [
        (marks, one, other) for marks in product((0, 1), repeat=len(names))
        for one in product((0, 1), repeat=len(laters)) for other in product((0, 1), repeat=len(earliers))]


def letter_told(names, full):
    """A full letter as a letter: the names, and a mark for each look with the number 1."""
    marks, laters, earliers = full
    found = [name for name, mark in zip(names, marks) if mark]
    return ("letter", tuple(found + [f"look{at}" for at, bit in enumerate(laters + earliers) if bit]))


def flat(formula, looks):
    """The formula with the marks of looks in the place of these."""
    if formula[0] == "mark":
        return formula
    if formula in looks:
        return ("mark", f"look{looks.index(formula)}")
    return (formula[0],) + tuple(flat(part, looks) for part in formula[1:])


def value_by_hand(formula, weave):
    """The value of the word of a weave of full letters told as letters; None if it has none."""
    laters, earliers = looks_in(formula)
    looks = laters + earliers
    found = []
    for at, look in enumerate(looks):
        head, (between, goal) = look[0], [flat(part, looks) for part in look[1:]]
        outer = START
        spot = (0,) if head == "until" else (1,)

        def beside(*parts):
            parts = [part for part in parts if part is not None]
            whole = parts[-1]
            for part in reversed(parts[:-1]):
                whole = ("then", part, whole)
            return whole

        def holds(what, due):
            """Whether a formula holds at a place beside the word, another one standing beyond it if due is 1."""
            end = END if due else None
            if head == "until":
                return Places(beside(outer, beside(*[part for part in (weave, end) if part]))).holds(what, spot)
            return Places(("then", beside(*[part for part in (end, weave) if part]), outer)).holds(what, spot)

        sees = (0 if holds((head, ALWAYS, ("not", between)), 0) else 1) + (2 if holds((head, between, goal), 0) else 0)
        fits = 0
        for due in (0, 1):
            right = (head, between, ("either", goal, ("mark", "END")))
            mark = ("mark", f"look{at}")
            wrong = ("either", ("both", mark, ("not", right)), ("both", ("not", mark), right))
            if not holds((head, ALWAYS, ("both", ("not", ("mark", "END")), wrong)), due):
                fits += 1 << due
        found.append((sees, fits))
    return None if any(fits == 0 for _, fits in found) else tuple(found)


def row_of(weaves):
    return then(*weaves) if weaves else ("none",)


M, N = ("mark", "x"), ("mark", "y")
NOT_M = ("not", M)
FORMULAS = (
    M, ("either", M, NOT_M), ("until", M, N), ("since", M, N), ("until", NOT_M, M), ("not", ("since", M, M)), ("until", ALWAYS, ALWAYS),
    ("until", ("both", M, NOT_M), ALWAYS), ("until", M, ("both", M, NOT_M)), ("both", ("until", M, N), ("until", N, M)),
    ("both", ("until", M, N), ("since", M, N)), ("until", ("since", M, M), M), ("since", M, ("until", NOT_M, M)),
    ("until", M, ("until", NOT_M, N)), ("until", ("until", M, M), NOT_M), ("since", ("not", ("since", M, N)), N),
    ("either", ("until", M, N), ("both", ("until", M, N), ("since", N, N))), ("since", ALWAYS, ("until", ALWAYS, M)),
)
THREE = (
    ("both", ("until", M, M), ("both", ("until", M, N), ("since", M, M))), ("until", ("until", ("until", M, M), M), M),
    ("both", ("since", M, M), ("both", ("since", M, N), ("since", N, M))),
)
