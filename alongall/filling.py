"""Weaves put in for the letters of weaves, and readers of words that have them put in."""

from alongall.algebras import worth_of
from alongall.errors import BadFills
from alongall.making import built
from alongall.readers import need_reader
from alongall.scopes import letter_number, need_scope
from alongall.spots import need_room
from alongall.weaves import is_weave, need_weave, parts_of


def need_fills(scope, other, fills):
    """BadFills for any value that is no tuple of weaves of the scope other, one for each letter of scope."""
    if not isinstance(fills, tuple) or len(fills) != 1 << len(scope):
        raise BadFills("not one weave for each letter")
    if not all(is_weave(other, fill) for fill in fills):
        raise BadFills("no weaves of the scope")


def filled_in(scope, weave, fills):
    """What is built as a weave, with the fill of each letter in its place."""
    if weave[0] == "letter":
        return fills[letter_number(scope, weave[1])]
    return built(weave[0], [filled_in(scope, part, fills) for part in parts_of(weave)])


def woven(scope, weave, other, fills):
    """The weave of the scope other with the fill of each letter in its place."""
    need_weave(scope, weave)
    need_scope(other)
    need_fills(scope, other, fills)
    whole = filled_in(scope, weave, fills)
    need_room((whole,))
    return whole


def filled(reader, scope, fills):
    """The reader of the words that are taken once each place has the fill of its letter put in."""
    need_reader(reader)
    need_scope(scope)
    _, names, algebra, starts, taken = reader
    need_fills(scope, names, fills)
    return ("reader", scope, algebra, tuple([worth_of(algebra, names, starts, fill) for fill in fills]), taken)
