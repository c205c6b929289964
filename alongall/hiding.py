"""The reader of the words in which places can be given a name such that another reader takes them."""

from alongall.errors import BadName
from alongall.least import least_of
from alongall.lots import lots_from
from alongall.readers import need_reader
from alongall.scopes import letter_number, letter_row


def lots_of_letters(scope, starts, name):
    """The lots of the starts of l and of l with the name, for the letters l without it, in order."""
    found = []
    for letter in letter_row(tuple([other for other in scope if other != name])):
        bare = starts[letter_number(scope, letter)]
        marked = starts[letter_number(scope, letter + (name,))]
        found.append(tuple(sorted(set((bare, marked)))))
    return found


def hidden_from(reader, name):
    """What hidden tells, all being as it should be."""
    _, scope, algebra, starts, taken = reader
    _, _, algebra, starts, taken = least_of(scope, algebra, starts, taken)
    given = lots_of_letters(scope, starts, name)
    lots, ways, mixes = lots_from(algebra, given)
    table = ("algebra", len(lots)) + ways + (mixes,)
    left = [number for number, lot in enumerate(lots) if any(element in taken for element in lot)]
    return least_of(tuple([other for other in scope if other != name]), table, [lots.index(lot) for lot in given], left)


def is_one_of(names, thing):
    """Whether any value is one of some names."""
    return isinstance(thing, str) and thing in names


def hidden(reader, name):
    """The least reader of the words in which some places, or none, can be given the name so that they are taken."""
    need_reader(reader)
    if not is_one_of(reader[1], name):
        raise BadName("no name of the scope of the reader")
    return hidden_from(reader, name)
