"""The least reader of the words that a reader takes."""

from alongall.errors import TooMany
from alongall.readers import need_reader
from alongall.turns import kinds_by_lot
from alongall.walks import numbers_met, places_in, table_of_some

MOST_ELEMENTS = 8


def told_by_line(table, starts, taken, line):
    """A triple: the table of the numbers in line, all that is met, the starts and what is taken in it."""
    if line == list(range(table[1])):
        return table, tuple(starts), tuple(taken)
    places = places_in(line)
    left = [places[a] for a in line if a in taken]
    return table_of_some(table, line, places), tuple([places[start] for start in starts]), tuple(sorted(left))


def walked(table, starts, taken):
    """The triple of told_by_line for what a walk from the starts meets, in this order."""
    return told_by_line(table, starts, taken, numbers_met(table, starts))


def fallen_together(table, kinds):
    """The table of kinds that each turn keeps, told by their first elements."""
    firsts = [kinds.index(kind) for kind in range(max(kinds) + 1)]
    return table_of_some(table, firsts, kinds)


def need_few(kinds):
    """TooMany(8) for more kinds."""
    if max(kinds) >= MOST_ELEMENTS:
        raise TooMany(MOST_ELEMENTS)


def least_of_met(scope, table, starts, taken):
    """The least reader of words whose values in a table, all of which are met, are taken; TooMany(8)."""
    kinds = kinds_by_lot(table, taken)
    need_few(kinds)
    if max(kinds) + 1 < table[1]:
        table = fallen_together(table, kinds)
        starts = [kinds[start] for start in starts]
        taken = sorted(set([kinds[element] for element in taken]))
    # Joined kinds need not come in the order of a walk any more.
    return ("reader", scope) + walked(table, starts, taken)


def least_of(scope, table, starts, taken):
    """As least_of_met, for a table in which there may be more than is met."""
    table, starts, taken = walked(table, starts, taken)
    return least_of_met(scope, table, starts, taken)


def least(reader):
    """The least reader that takes the words that the reader takes."""
    need_reader(reader)
    _, scope, algebra, starts, taken = reader
    return least_of(scope, algebra, starts, taken)
