"""Algebras that come of others by what is met in them."""

from alongall.algebras import need_algebra
from alongall.errors import BadGiven
from alongall.plain import is_below
from alongall.walks import numbers_met, pair_table, pairs_met, places_in, table_of_some

MOST_GIVEN = 8
MOST_MET = 8


def is_given(thing):
    """Whether any value is a tuple of at most 8 things."""
    return isinstance(thing, tuple) and len(thing) <= MOST_GIVEN


def is_pair_of(one, other, thing):
    """Whether any value is a pair of an element of one and an element of other."""
    if not isinstance(thing, tuple) or len(thing) != 2:
        return False
    return is_below(thing[0], one[1]) and is_below(thing[1], other[1])


def made(algebra, given):
    """A pair: the algebra of what a walk from the given elements meets, and these in order."""
    need_algebra(algebra)
    if not is_given(given) or not all(is_below(element, algebra[1]) for element in given):
        raise BadGiven("no tuple of at most 8 numbers of it")
    line = numbers_met(algebra, given)
    return table_of_some(algebra, line, places_in(line)), tuple(line)


def paired(one, other, given):
    """As made, for pairs of elements, everything done in one and in other by itself."""
    need_algebra(one)
    need_algebra(other)
    if not is_given(given) or not all(is_pair_of(one, other, pair) for pair in given):
        raise BadGiven("no tuple of at most 8 pairs of numbers")
    line = pairs_met(one, other, given, MOST_MET)
    return pair_table(one, other, line), tuple(line)


def flipped_over(table):
    """The table with b a for a b, on and back exchanged."""
    _, many, then, on, back, mix = table
    columns = [tuple([then[b][a] for b in range(many)]) for a in range(many)]
    return ("algebra", many, tuple(columns), back, on, mix)


def flipped(algebra):
    """The algebra in which each word has the value that it has, turned, in this one."""
    need_algebra(algebra)
    return flipped_over(algebra)
