"""Mergings: elements of an algebra put together so that it stays an algebra."""

from alongall.algebras import need_algebra
from alongall.errors import BadLot, BadMerging, BadPairs
from alongall.least import fallen_together
from alongall.plain import is_ascending, is_below, is_lot_below
from alongall.turns import kinds_by_lot, numbered, rows_alone

MOST_PAIRS = 20


def is_split(many, thing):
    """Whether any value is an ascending tuple of lots, each element in just one of them."""
    if not isinstance(thing, tuple) or not 1 <= len(thing) <= many:
        return False
    if not all(is_lot_below(lot, many) and len(lot) > 0 for lot in thing) or not is_ascending(thing):
        return False
    found = []
    for lot in thing:
        found.extend(lot)
    return sorted(found) == list(range(many))


def kinds_of_lots(many, lots):
    """For each element the number of its lot."""
    kinds = [0] * many
    for number, lot in enumerate(lots):
        for element in lot:
            kinds[element] = number
    return kinds


def lots_of_kinds(kinds):
    """The lots of elements of one kind, the kinds numbered in the order of their first elements."""
    lots = [[] for _ in range(max(kinds) + 1)]
    for element, kind in enumerate(kinds):
        lots[kind].append(element)
    return tuple([tuple(lot) for lot in lots])


def is_kept(rows, kinds):
    """Whether each turn, told by a row, makes elements of one kind of elements of one kind."""
    firsts = [kinds.index(kind) for kind in kinds]
    for row in rows:
        if not all(kinds[row[a]] == kinds[row[first]] for a, first in enumerate(firsts)):
            return False
    return True


def is_merging_of(algebra, thing):
    """Whether any value is a merging of what is an algebra."""
    many = algebra[1]
    return is_split(many, thing) and is_kept(rows_alone(algebra), kinds_of_lots(many, thing))


def is_merging(algebra, thing):
    """Whether any value is a merging of the algebra."""
    need_algebra(algebra)
    return is_merging_of(algebra, thing)


def merged(algebra, merging):
    """The algebra of the lots of a merging, by their numbers."""
    need_algebra(algebra)
    if not is_merging_of(algebra, merging):
        raise BadMerging("no merging of the algebra")
    return fallen_together(algebra, kinds_of_lots(algebra[1], merging))


def all_kinds(many):
    """All ways to put so many elements into kinds, numbered in the order of their first elements."""
    found = [[0]]
    for _ in range(many - 1):
        found = [kinds + [kind] for kinds in found for kind in range(max(kinds) + 2)]
    return found


def mergings(algebra):
    """The ascending tuple of all mergings."""
    need_algebra(algebra)
    rows = rows_alone(algebra)
    return tuple(sorted([lots_of_kinds(kinds) for kinds in all_kinds(algebra[1]) if is_kept(rows, kinds)]))


def is_element_pair(algebra, thing):
    """Whether any value is a pair of elements."""
    if not isinstance(thing, tuple) or len(thing) != 2:
        return False
    return is_below(thing[0], algebra[1]) and is_below(thing[1], algebra[1])


def need_pairs(algebra, pairs):
    """BadPairs for any value that is no tuple of at most 20 pairs of elements."""
    if not isinstance(pairs, tuple) or len(pairs) > MOST_PAIRS:
        raise BadPairs("no tuple of at most 20 pairs")
    if not all(is_element_pair(algebra, pair) for pair in pairs):
        raise BadPairs("no pairs of numbers of it")


def kinds_joining(rows, many, pairs):
    """The kinds, as many as can be, that each turn keeps and that have both of each pair in one."""
    kinds = list(range(many))
    waiting = list(pairs)
    while len(waiting) > 0:
        one, other = waiting.pop()
        if kinds[one] != kinds[other]:
            kinds = [kinds[one] if kind == kinds[other] else kind for kind in kinds]
            waiting.extend([(row[one], row[other]) for row in rows])
    return numbered(kinds)


def least_merging(algebra, pairs):
    """The merging with the most lots that has both of each pair in one lot."""
    need_algebra(algebra)
    need_pairs(algebra, pairs)
    return lots_of_kinds(kinds_joining(rows_alone(algebra), algebra[1], pairs))


def need_lot_or_none(algebra, lot):
    """BadLot for any value that is no ascending tuple of elements; () is one."""
    if not is_lot_below(lot, algebra[1]):
        raise BadLot("no ascending tuple of numbers of it")


def coarsest(algebra, lot):
    """The merging with the fewest lots, each of which lies in this lot or has nothing of it."""
    need_algebra(algebra)
    need_lot_or_none(algebra, lot)
    return lots_of_kinds(kinds_by_lot(algebra, lot))
