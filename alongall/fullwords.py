"""Values of words of full letters, which guess where until and since hold."""

from alongall.errors import BadFull, BadLot, BadValue
from alongall.fulling import Full, gathered_with
from alongall.placed import need_placed
from alongall.plain import is_ascending


def full_of(formula):
    """The names and looks of a formula; BadPlaced, TooMany(2)."""
    need_placed(formula)
    return Full([formula])


def need_value(full, thing):
    """BadValue for any value that is no value."""
    if not full.is_value(thing):
        raise BadValue("no value of words of full letters")


def value_of(formula, letter):
    """The value of the word of one full letter."""
    full = full_of(formula)
    if not full.is_letter(letter):
        raise BadFull("no full letter of the formula")
    marks, laters, earliers = letter
    bits = sum(bit << at for at, bit in enumerate(laters + earliers))
    return full.worth(tuple([name for name, mark in zip(full.names, marks) if mark == 1]), bits)


def then_value(formula, one, other):
    """The value of a word of one value, and behind it one of the other; None if it has none."""
    full = full_of(formula)
    need_value(full, one)
    need_value(full, other)
    return full.then(one, other)


def on_value(formula, one):
    """The value of on of a word of this value; None if it has none."""
    full = full_of(formula)
    need_value(full, one)
    return full.on(one)


def back_value(formula, one):
    """The value of back of a word of this value; None if it has none."""
    full = full_of(formula)
    need_value(full, one)
    return full.back(one)


def mix_value(formula, lot):
    """The value of the mix of words of these values; None if it has none."""
    full = full_of(formula)
    if not isinstance(lot, tuple) or len(lot) == 0 or not all(full.is_value(one) for one in lot):
        raise BadLot("no lot of values")
    if not is_ascending(lot):
        raise BadLot("not ascending")
    gathered = lot[0]
    for one in lot[1:]:
        gathered = gathered_with(gathered, one)
    return full.mix(gathered)
