"""Readers of the words that others do not take, or that both, or one of them takes."""

from alongall.least import least_of, need_few, walked
from alongall.readers import need_reader, need_readers
from alongall.turns import kinds_kept, mix_rows, numbered
from alongall.walks import FIRST_BITS, SECOND, Walk, codes_of, mix_of_code, pair_table, pairs_met, places_in

MOST_PAIRS = 14


def least_from(reader):
    """The least reader of what is a reader."""
    _, scope, algebra, starts, taken = reader
    return least_of(scope, algebra, starts, taken)


def contrary_least(reader):
    """What contrary tells of a least reader."""
    _, scope, algebra, starts, taken = reader
    return ("reader", scope, algebra, starts, tuple([a for a in range(algebra[1]) if a not in taken]))


def contrary(reader):
    """The least reader of the words that the reader does not take."""
    need_reader(reader)
    return contrary_least(least_from(reader))


def counts_of(one, other, pairs):
    """For each pair how many of its elements are taken."""
    return [(a in one[4]) + (b in other[4]) for a, b in pairs]


def met_together(one, other):
    """A triple: the table of the pairs met, their starts, and for each pair how many of it are taken."""
    one = least_from(one)
    other = least_from(other)
    given = list(zip(one[3], other[3]))
    line = pairs_met(one[2], other[2], given, MOST_PAIRS)
    places = places_in(line)
    return pair_table(one[2], other[2], line), [places[pair] for pair in given], counts_of(one, other, line)


def product_rows(walk):
    """For each pair met the row of the places of its then with each pair met."""
    places = walk.places
    found = []
    for a, b in walk.line:
        row = walk.one[2][a]
        row_too = walk.other[2][b]
        found.append(tuple([places[(row[c], row_too[d])] for c, d in walk.line]))
    return found


def mixed_rows(walk):
    """What the mix of a lot of pairs met and each of them is, for enough lots that each row is among them."""
    rows = mix_rows(walk.one)
    rows_too = mix_rows(walk.other)
    found = {}
    if walk.is_whole():
        # Each lot of the one stands beside each lot of the other.
        found = {(row, row_too): (row, row_too) for row in sorted(set(rows)) for row_too in sorted(set(rows_too))}
    else:
        kinds = numbered(rows)
        kinds_too = numbered(rows_too)
        for code in walk.codes:
            first = (code & FIRST_BITS) >> 1
            second = code >> (SECOND + 1)
            found[(kinds[first], kinds_too[second])] = (rows[first], rows_too[second])
    places = walk.places
    return [tuple([places[(row[a], row_too[b])] for a, b in walk.line]) for row, row_too in list(found.values())]


def end_rows(walk):
    """The rows of on and back of all pairs met."""
    _, _, _, on, back, _ = walk.one
    _, _, _, on_too, back_too, _ = walk.other
    places = walk.places
    first = tuple([places[(on[a], on_too[b])] for a, b in walk.line])
    return [first, tuple([places[(back[a], back_too[b])] for a, b in walk.line])]


def kind_table(walk, products, ends, kinds):
    """The table of kinds of pairs, told by their first pairs."""
    firsts = [kinds.index(kind) for kind in range(max(kinds) + 1)]
    then = [tuple([kinds[products[first][second]] for second in firsts]) for first in firsts]
    on, back = [tuple([kinds[row[first]] for first in firsts]) for row in ends]
    codes = codes_of([walk.line[first] for first in firsts])
    mix = [kinds[walk.places[mix_of_code(walk.one, walk.other, code)]] for code in codes]
    return ("algebra", len(firsts), tuple(then), on, back, tuple(mix))


def combined_least(one, other, wanted):
    """The least reader of the words that as many of two least readers take as one of wanted says."""
    walk = Walk(one[2], other[2], MOST_PAIRS)
    given = list(zip(one[3], other[3]))
    walk.go(given)
    right = [count in wanted for count in counts_of(one, other, walk.line)]
    products = product_rows(walk)
    ends = end_rows(walk)
    rows = {row: True for row in products + list(zip(*products)) + ends + mixed_rows(walk)}
    kinds = kinds_kept(list(rows), right)
    need_few(kinds)
    taken = sorted(set([kind for kind, is_right in zip(kinds, right) if is_right]))
    starts = [kinds[walk.places[pair]] for pair in given]
    return ("reader", one[1]) + walked(kind_table(walk, products, ends, kinds), starts, taken)


def both_least(one, other):
    """What meeting tells of least readers of one scope."""
    return combined_least(one, other, (2,))


def either_least(one, other):
    """What joining tells of least readers of one scope."""
    return combined_least(one, other, (1, 2))


def meeting(one, other):
    """The least reader of the words that both take."""
    need_readers(one, other)
    return both_least(least_from(one), least_from(other))


def joining(one, other):
    """The least reader of the words that at least one takes."""
    need_readers(one, other)
    return either_least(least_from(one), least_from(other))
