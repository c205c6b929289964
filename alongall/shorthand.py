"""Shorts told by formulas without shorts."""

from alongall.errors import BadShort, TooMany
from alongall.formulas import ATOMS, MOST_NODES, is_bound, is_short, need_measured
from alongall.spreading import spread
from alongall.words import LETTERS_OF_NAMES


def implied(one, other):
    """That other is so if one is."""
    return ("either", ("not", one), other)


def all_so(formulas):
    """That all of some formulas are so."""
    told = formulas[-1]
    for formula in reversed(formulas[:-1]):
        told = ("both", formula, told)
    return told


def nil(u):
    """That u has no place."""
    return ("ahead", u, u)


def end_place(u, v, k, last):
    """That u is just one place, the first one of v, or the last one."""
    beside = ("ahead", k, u) if last else ("ahead", u, k)
    inside = ("both", ("one", k), ("sub", k, v))
    return all_so([("one", u), ("sub", u, v), ("all", k, implied(inside, ("either", ("sub", k, u), beside)))])


def two_places(u, k):
    """That u has two places or more."""
    small = ("either", ("sub", u, k), ("either", nil(k), ("one", k)))
    return all_so([("not", nil(u)), ("not", ("one", u)), ("all", k, implied(("sub", k, u), small))])


def gap_less(u, v, k):
    """That u has two places or more and lies in v, nothing of which is between places of u but places of u."""
    around = ("either", ("sub", k, u), ("either", ("ahead", k, u), ("ahead", u, k)))
    inside = ("both", ("one", k), ("sub", k, v))
    return all_so([("sub", u, v), two_places(u, k), ("all", k, implied(inside, around))])


def each_has_end(x, names, last):
    """That each set of places of x, not bare, has a first place, or a last one."""
    p, q, r = names
    some = ("some", q, end_place(q, p, r, last))
    return ("all", p, implied(("sub", p, x), ("either", nil(p), some)))


def told_of_two(head, x, y, p):
    """The formula of a short that has two names."""
    if head == "same":
        return ("both", ("sub", x, y), ("sub", y, x))
    if head == "apart":
        return ("all", p, implied(("both", ("sub", p, x), ("sub", p, y)), nil(p)))
    if head != "next":
        return end_place(x, y, p, head == "last")
    behind = ("both", ("one", p), ("ahead", x, p))
    return all_so([("one", x), ("one", y), ("ahead", x, y), ("all", p, implied(behind, ("not", ("ahead", p, y))))])


def told_of_one(head, x, names):
    """The formula of a short that has one name."""
    p, q, r = names
    if head == "bare":
        return nil(x)
    if head == "down":
        ahead = implied(("both", ("one", q), ("ahead", q, p)), ("either", nil(p), ("sub", q, x)))
        return ("all", p, implied(("sub", p, x), ("all", q, ahead)))
    if head == "dense":
        return ("not", ("some", p, gap_less(p, x, q)))
    if head == "well":
        return each_has_end(x, names, False)
    if head == "finite":
        return ("both", each_has_end(x, names, False), each_has_end(x, names, True))
    close = ("both", ("sub", p, x), ("not", ("some", q, gap_less(q, p, r))))
    return ("all", p, implied(close, ("either", nil(p), ("one", p))))


def told_short(short):
    """What as_formula tells of what is a short."""
    names = [sign for sign in LETTERS_OF_NAMES if sign not in short[1:]][:3]
    if len(short) == 3:
        return told_of_two(short[0], short[1], short[2], names[0])
    return told_of_one(short[0], short[1], names)


def as_formula(short):
    """A formula without shorts that says the same."""
    if not is_short(short):
        raise BadShort("no short")
    return told_short(short)


def shorts_told(formula):
    """What without_shorts tells, however large."""
    if formula[0] in ATOMS:
        return formula
    if is_short(formula):
        return told_short(formula)
    if is_bound(formula):
        return (formula[0], formula[1], shorts_told(formula[2]))
    return (formula[0],) + tuple([shorts_told(part) for part in formula[1:]])


def without_shorts(formula):
    """The formula with each short told by as_formula."""
    need_measured(formula)
    told = shorts_told(formula)
    if spread(told)[0] > MOST_NODES:
        raise TooMany(MOST_NODES)
    return told
