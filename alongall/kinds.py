"""Kinds of orders: finite, well, backwell, scattered, any."""

from alongall.errors import BadKind
from alongall.making import turned_weave
from alongall.readers import need_reader
from alongall.weaves import need_weave, parts_of, place_count
from alongall.weighed import WAYS, weighed


def is_kind(thing):
    """Whether any value is a kind."""
    return isinstance(thing, str) and thing in WAYS


def need_kind(kind):
    """BadKind for any value that is no kind."""
    if not is_kind(kind):
        raise BadKind("no kind of orders")


def is_well(weave):
    """Whether each set of places of the word, not bare, has a first place."""
    if place_count(weave) == 0:
        return True
    return weave[0] not in ("back", "mix") and all(is_well(part) for part in parts_of(weave))


def is_scattered(weave):
    """Whether there are no places of the word between any two of which there is one more."""
    if place_count(weave) == 0:
        return True
    return weave[0] != "mix" and all(is_scattered(part) for part in parts_of(weave))


def is_of_kind(kind, weave):
    """Whether the word of what is a weave is of what is a kind."""
    if kind == "finite":
        return place_count(weave) is not None
    if kind == "well":
        return is_well(weave)
    if kind == "backwell":
        return is_well(turned_weave(weave))
    return kind == "any" or is_scattered(weave)


def is_of(kind, scope, weave):
    """Whether the word of the weave is of the kind."""
    need_kind(kind)
    need_weave(scope, weave)
    return is_of_kind(kind, weave)


def met_of_kind(reader, kind):
    """What met_in tells, all being as it should be."""
    _, scope, algebra, starts, _ = reader
    return tuple(sorted(weighed(algebra, scope, starts, kind)))


def met_in(reader, kind):
    """The lot of the values of all words of the kind."""
    need_reader(reader)
    need_kind(kind)
    return met_of_kind(reader, kind)
