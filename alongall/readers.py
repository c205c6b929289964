"""Readers: algebras with starts for letters, and the values that are taken."""

from alongall.algebras import is_algebra, worth_of
from alongall.errors import BadReader, BadWeave, OtherScope
from alongall.plain import head_of, is_lot_below, is_row_below
from alongall.scopes import is_scope
from alongall.weaves import is_weave


def is_reader(thing):
    """Whether any value is a reader."""
    if head_of(thing) != "reader" or len(thing) != 5:
        return False
    _, scope, algebra, starts, taken = thing
    if not is_scope(scope) or not is_algebra(algebra):
        return False
    many = algebra[1]
    return is_row_below(starts, many, 1 << len(scope)) and is_lot_below(taken, many)


def need_reader(reader):
    """BadReader for any value that is no reader."""
    if not is_reader(reader):
        raise BadReader("no reader")


def need_readers(one, other):
    """BadReader for one, for other, then OtherScope for readers of unlike scopes."""
    need_reader(one)
    need_reader(other)
    if one[1] != other[1]:
        raise OtherScope("readers of unlike scopes")


def takes(reader, weave):
    """Whether the reader takes the word of the weave."""
    need_reader(reader)
    _, scope, algebra, starts, taken = reader
    if not is_weave(scope, weave):
        raise BadWeave("no weave of the scope of the reader")
    return worth_of(algebra, scope, starts, weave) in taken
