"""Readers of the same words in another scope, or turned."""

from alongall.building import flipped_over
from alongall.errors import BadNames, BadScope
from alongall.least import least_of, walked
from alongall.readers import need_reader
from alongall.scopes import is_scope, letter_number, letter_row
from alongall.words import is_name


def widened_starts(names, starts, scope):
    """The starts of the letters of a wider scope: of each that of what is left of it."""
    return [starts[letter_number(names, letter)] for letter in letter_row(scope)]


def widened_least(reader, scope):
    """What widened tells of a least reader."""
    _, names, algebra, starts, taken = reader
    if names == scope:
        return reader
    # The starts are the same ones in another order, so that only the numbers of elements may change.
    return ("reader", scope) + walked(algebra, widened_starts(names, starts, scope), taken)


def widened(reader, scope):
    """The least reader of the words of a wider scope that are taken if the other names are left out."""
    need_reader(reader)
    if not is_scope(scope) or not all(name in scope for name in reader[1]):
        raise BadScope("no scope with the names of the reader")
    _, names, algebra, starts, taken = reader
    return least_of(scope, algebra, widened_starts(names, starts, scope), taken)


def are_unlike_names(thing, many):
    """Whether any value is a tuple of so many unlike names."""
    if not isinstance(thing, tuple) or len(thing) != many:
        return False
    return all(is_name(name) for name in thing) and len(set(thing)) == many


def renamed(reader, names):
    """The least reader of the words that come of those taken if names are put for those of the scope."""
    need_reader(reader)
    _, scope, algebra, starts, taken = reader
    if not are_unlike_names(names, len(scope)):
        raise BadNames("no tuple of as many unlike names")
    new = tuple(sorted(names))
    # Letters are numbered by the order of names, which may be another one now.
    told = [starts[letter_number(names, letter)] for letter in letter_row(new)]
    return least_of(new, algebra, told, taken)


def backward(reader):
    """The least reader of the words that are taken if they are turned."""
    need_reader(reader)
    _, scope, algebra, starts, taken = reader
    return least_of(scope, flipped_over(algebra), starts, taken)
