"""The least reader of the words that a reader takes."""

from alongall.errors import TooMany
from alongall.readers import need_reader
from alongall.turns import kinds_by_lot
from alongall.walks import places_in, table_over, walk

MOST_ELEMENTS = 8


def walked(table, starts, taken):
    """A triple: the table of what a walk from the starts meets, in this order, the starts and what is taken in it."""
    tables = (table,)
    line = walk(tables, [(start,) for start in starts], table[1])
    places = places_in(line)
    left = [places[thing] for thing in line if thing[0] in taken]
    return table_over(tables, line, places), tuple([places[(start,)] for start in starts]), tuple(left)


def fallen_together(table, kinds):
    """The table of kinds that each turn keeps, told by their first elements."""
    firsts = [(kinds.index(kind),) for kind in range(max(kinds) + 1)]
    return table_over((table,), firsts, {(a,): kind for a, kind in enumerate(kinds)})


def least_of(scope, table, starts, taken):
    """The least reader of words whose values in a table, perhaps a large one, are taken; TooMany(8)."""
    table, starts, taken = walked(table, starts, taken)
    kinds = kinds_by_lot(table, taken)
    if max(kinds) >= MOST_ELEMENTS:
        raise TooMany(MOST_ELEMENTS)
    starts = [kinds[start] for start in starts]
    taken = [kinds[element] for element in taken]
    # Joined kinds need not come in the order of a walk any more.
    return ("reader", scope) + walked(fallen_together(table, kinds), starts, taken)


def least(reader):
    """The least reader that takes the words that the reader takes."""
    need_reader(reader)
    _, scope, algebra, starts, taken = reader
    return least_of(scope, algebra, starts, taken)
