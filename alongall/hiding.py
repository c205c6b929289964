"""The reader of the words in which places can be given a name such that another reader takes them."""

from alongall.errors import BadName
from alongall.least import least_of, least_of_met
from alongall.lots import lots_from
from alongall.readers import need_reader
from alongall.scopes import letter_number, letter_row


def lots_of_letters(scope, starts, name):
    """The lots of the starts of l and of l with the name, for the letters l without it, in order."""
    found = []
    for letter in letter_row(tuple([other for other in scope if other != name])):
        bare = starts[letter_number(scope, letter)]
        marked = starts[letter_number(scope, letter + (name,))]
        found.append(tuple(sorted(set((bare, marked)))))
    return found


def hidden_least(reader, name):
    """What hidden tells of a least reader, all being as it should be."""
    _, scope, algebra, starts, taken = reader
    given = lots_of_letters(scope, starts, name)
    lots, ways, mixes = lots_from(algebra, given)
    table = ("algebra", len(lots)) + ways + (mixes,)
    left = [number for number, lot in enumerate(lots) if any(element in taken for element in lot)]
    rest = tuple([other for other in scope if other != name])
    # All lots that are come to are met: they come of the starts in just these ways.
    return least_of_met(rest, table, [lots.index(lot) for lot in given], left)


def is_one_of(names, thing):
    """Whether any value is one of some names."""
    return isinstance(thing, str) and thing in names


def hidden(reader, name):
    """The least reader of the words in which some places, or none, can be given the name so that they are taken."""
    need_reader(reader)
    if not is_one_of(reader[1], name):
        raise BadName("no name of the scope of the reader")
    _, scope, algebra, starts, taken = reader
    return hidden_least(least_of(scope, algebra, starts, taken), name)
