"""Readers of the same words in another scope, or turned."""

from alongall.building import flipped_over
from alongall.errors import BadNames, BadScope
from alongall.least import least_of
from alongall.readers import need_reader
from alongall.scopes import is_scope, letter_number, letter_row
from alongall.words import is_name


def widened_to(reader, scope):
    """What widened tells, all being as it should be."""
    _, names, algebra, starts, taken = reader
    # A letter has the start of what is left of it in the scope of the reader.
    told = [starts[letter_number(names, letter)] for letter in letter_row(scope)]
    return least_of(scope, algebra, told, taken)


def widened(reader, scope):
    """The least reader of the words of a wider scope that are taken if the other names are left out."""
    need_reader(reader)
    if not is_scope(scope) or not all(name in scope for name in reader[1]):
        raise BadScope("no scope with the names of the reader")
    return widened_to(reader, scope)


def are_unlike_names(thing, many):
    """Whether any value is a tuple of so many unlike names."""
    if not isinstance(thing, tuple) or len(thing) != many:
        return False
    return all(is_name(name) for name in thing) and len(set(thing)) == many


def renamed(reader, names):
    """The least reader of the words that come of those taken if names are put for those of the scope."""
    need_reader(reader)
    _, scope, algebra, starts, taken = reader
    if not are_unlike_names(names, len(scope)):
        raise BadNames("no tuple of as many unlike names")
    new = tuple(sorted(names))
    # Letters are numbered by the order of names, which may be another one now.
    told = [starts[letter_number(names, letter)] for letter in letter_row(new)]
    return least_of(new, algebra, told, taken)


def backward(reader):
    """The least reader of the words that are taken if they are turned."""
    need_reader(reader)
    _, scope, algebra, starts, taken = reader
    return least_of(scope, flipped_over(algebra), starts, taken)
