"""Scopes and their letters."""

from alongall.errors import BadScope
from alongall.plain import is_ascending
from alongall.words import is_name


def is_scope(thing):
    """Whether any value is an ascending tuple of at most 3 names."""
    if not isinstance(thing, tuple) or len(thing) > 3:
        return False
    return all(is_name(name) for name in thing) and is_ascending(thing)


def need_scope(scope):
    """BadScope for any value that is no scope."""
    if not is_scope(scope):
        raise BadScope("no scope")


def letter_row(scope):
    """The letters of a scope, each at the place that is its number."""
    row = []
    for number in range(1 << len(scope)):
        row.append(tuple([name for at, name in enumerate(scope) if number >> at & 1]))
    return tuple(row)


def letter_number(scope, letter):
    """The sum of 2 ** i for each i-th name of the scope that is in the letter."""
    return sum(1 << at for at, name in enumerate(scope) if name in letter)


def is_letter(scope, thing):
    """Whether any value is a letter of the scope."""
    if not isinstance(thing, tuple) or len(thing) > len(scope):
        return False
    return all(isinstance(name, str) and name in scope for name in thing) and is_ascending(thing)


def scope_of(names):
    """The ascending tuple of some names."""
    return tuple(sorted(set(names)))
