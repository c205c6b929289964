"""Places formulas told as rounds formulas, which speak of places by names."""

from alongall.errors import BadName
from alongall.placed import names_of
from alongall.words import LETTERS_OF_NAMES, is_name


def opposite(truth, told):
    """The rounds formula, or not it, as truth says."""
    return told if truth else ("not", told)


def said_of(formula, truth, places):
    """A rounds formula that says of the first of three names of places that formula is so, or not so."""
    head = formula[0]
    if head == "mark":
        return opposite(truth, ("bears", places[0], formula[1]))
    if head == "not":
        # A not goes inwards, since what is told must not be too deep.
        return said_of(formula[1], not truth, places)
    if head in ("both", "either"):
        if not truth:
            head = "either" if head == "both" else "both"
        return (head, said_of(formula[1], truth, places), said_of(formula[2], truth, places))
    return opposite(truth, look_said(formula, places))


def look_said(formula, places):
    """What said_of tells of a formula that begins with until or since."""
    here, there, between = places
    way = ("before", here, there)
    inside = ("both", ("before", here, between), ("before", between, there))
    if formula[0] == "since":
        way = ("before", there, here)
        inside = ("both", ("before", there, between), ("before", between, here))
    # The names further out are free to be bound anew: inside, only the first name of a formula counts.
    goal = said_of(formula[2], True, (there, here, between))
    clear = said_of(formula[1], True, (between, here, there))
    held = ("all", between, ("either", ("not", inside), clear))
    return ("some", there, ("both", ("both", way, goal), held))


def as_rounds(formula, name):
    """A rounds formula, name free in it, that holds at the same places."""
    names = names_of(formula)
    if not is_name(name) or name in names:
        raise BadName("no name, or one that stands in the formula")
    new = [sign for sign in LETTERS_OF_NAMES if sign != name and sign not in names]
    return said_of(formula, True, (name, new[0], new[1]))
