"""Words with more around them, and readers of words that are taken with it."""

from alongall.chains import all_turned, are_surroundings
from alongall.errors import BadSurroundings, BadWeave
from alongall.least import least_of
from alongall.making import mix_with
from alongall.readers import need_reader
from alongall.spots import need_room
from alongall.weaves import is_weave
from alongall.weighed import weighed


def shown_weaves(reader, surroundings):
    """The least weaves of the elements met; BadReader, BadSurroundings unless all elements in surroundings are met."""
    need_reader(reader)
    _, scope, algebra, starts, _ = reader
    if not are_surroundings(algebra, surroundings):
        raise BadSurroundings("no surroundings")
    found = weighed(algebra, scope, starts, "any")
    for turn in surroundings:
        if not all(element in found for element in spoken_of(turn)):
            raise BadSurroundings("not all is met")
    return found


def spoken_of(turn):
    """The elements in a turn."""
    if turn[0] == "mix":
        return turn[1]
    return turn[1:]


def wrapped_by(turn, weave, found):
    """What a turn makes of a weave."""
    head = turn[0]
    if head in ("on", "back"):
        return (head, weave)
    if head == "left":
        return ("then", found[turn[1]], weave)
    if head == "right":
        return ("then", weave, found[turn[1]])
    return mix_with([weave] + [found[element] for element in turn[1]])


def wrapped(reader, surroundings, weave):
    """The weave with the surroundings around it, turn by turn."""
    found = shown_weaves(reader, surroundings)
    if not is_weave(reader[1], weave):
        raise BadWeave("no weave of the scope of the reader")
    for turn in surroundings:
        weave = wrapped_by(turn, weave, found)
    need_room((weave,))
    return weave


def asked(reader, surroundings):
    """The least reader of the words that are taken with the surroundings around them."""
    shown_weaves(reader, surroundings)
    _, scope, algebra, starts, taken = reader
    left = [element for element in range(algebra[1]) if all_turned(algebra, surroundings, element) in taken]
    return least_of(scope, algebra, starts, left)
