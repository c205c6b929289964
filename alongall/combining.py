"""Readers of the words that others do not take, or that both, or one of them takes."""

from alongall.least import least_of
from alongall.readers import need_reader, need_readers
from alongall.walks import places_in, table_over, walk

MOST_PAIRS = 14


def least_parts(reader):
    """The algebra, the starts and what is taken of the least reader."""
    _, scope, algebra, starts, taken = reader
    return least_of(scope, algebra, starts, taken)[2:]


def contrary_of(reader):
    """What contrary tells of what is a reader."""
    _, scope, algebra, starts, taken = reader
    return least_of(scope, algebra, starts, [a for a in range(algebra[1]) if a not in taken])


def contrary(reader):
    """The least reader of the words that the reader does not take."""
    need_reader(reader)
    return contrary_of(reader)


def met_together(one, other):
    """A triple: the table of the pairs met, their starts, and for each pair how many of it are taken."""
    algebra, starts, taken = least_parts(one)
    algebra_too, starts_too, taken_too = least_parts(other)
    tables = (algebra, algebra_too)
    pairs = list(zip(starts, starts_too))
    line = walk(tables, pairs, MOST_PAIRS)
    places = places_in(line)
    counts = [(a in taken) + (b in taken_too) for a, b in line]
    return table_over(tables, line, places), [places[pair] for pair in pairs], counts


def both_of(one, other):
    """What meeting tells of what are readers of one scope."""
    table, starts, counts = met_together(one, other)
    return least_of(one[1], table, starts, [place for place, count in enumerate(counts) if count == 2])


def either_of(one, other):
    """What joining tells of what are readers of one scope."""
    table, starts, counts = met_together(one, other)
    return least_of(one[1], table, starts, [place for place, count in enumerate(counts) if count > 0])


def meeting(one, other):
    """The least reader of the words that both take."""
    need_readers(one, other)
    return both_of(one, other)


def joining(one, other):
    """The least reader of the words that at least one takes."""
    need_readers(one, other)
    return either_of(one, other)
