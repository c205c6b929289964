"""Spots, which tell places of weaves, and what stands around them."""

from alongall.errors import BadSpot, TooMany
from alongall.plain import is_below
from alongall.weaves import MOST_DEEP, MOST_NODES, depth_of, need_weave, node_count, parts_of, place_count

MOST_COPY = 40


def part_under(weave, number):
    """The part of a weave that a number of a spot leads to."""
    if weave[0] in ("on", "back"):
        return weave[1]
    return parts_of(weave)[number]


def leads(weave, thing):
    """Whether any value is a number that leads to a part of the weave."""
    if weave[0] in ("on", "back"):
        return is_below(thing, MOST_COPY + 1)
    return is_below(thing, len(parts_of(weave)))


def spot_leads(weave, thing):
    """Whether any value is a spot of what is a weave."""
    if not isinstance(thing, tuple):
        return False
    for number in thing:
        if not leads(weave, number):
            return False
        weave = part_under(weave, number)
    return weave[0] == "letter"


def is_spot(scope, weave, thing):
    """Whether any value is a spot of the weave."""
    need_weave(scope, weave)
    return spot_leads(weave, thing)


def need_spot(scope, weave, spot):
    """BadScope, BadWeave, then BadSpot for any value that is no spot of the weave."""
    if not is_spot(scope, weave, spot):
        raise BadSpot("no spot of the weave")


def takes_in(weave, behind):
    """Whether weave, and behind it the other one, tell just what weave tells."""
    return weave == ("back", behind) or (weave[0] == "mix" and weave == behind)


def shortened(pieces):
    """Pieces that tell the same in a row, less of them where they are alike."""
    kept = []
    for piece in pieces:
        if place_count(piece) == 0 or (len(kept) > 0 and takes_in(kept[-1], piece)):
            continue
        while len(kept) > 0 and piece == ("on", kept[-1]):
            kept.pop()
        kept.append(piece)
    return kept


def halved(pieces):
    """The weave of pieces in a row, put together so that it is not deep."""
    if len(pieces) == 0:
        return ("none",)
    if len(pieces) == 1:
        return pieces[0]
    half = len(pieces) // 2
    return ("then", halved(pieces[:half]), halved(pieces[half:]))


def pieces_around(weave, spot):
    """A triple: the weaves ahead of a place, in a row, its letter, those behind it, in a row."""
    ahead = []
    inside_out = []
    for number in spot:
        head = weave[0]
        part = part_under(weave, number)
        if head == "then" and number == 0:
            inside_out.append(weave[2])
        elif head == "then":
            ahead.append(weave[1])
        elif head == "on":
            ahead.extend([part] * number)
            inside_out.append(weave)
        elif head == "back":
            ahead.append(weave)
            inside_out.extend([part] * number)
        else:
            ahead.append(weave)
            inside_out.append(weave)
        weave = part
    return ahead, weave[1], inside_out[::-1]


def need_room(weaves):
    """TooMany for weaves with too many nodes, then for those that are too deep."""
    if any(node_count(weave) > MOST_NODES for weave in weaves):
        raise TooMany(MOST_NODES)
    if any(depth_of(weave) > MOST_DEEP for weave in weaves):
        raise TooMany(MOST_DEEP)


def cut(scope, weave, spot):
    """A triple: what stands ahead of the place, its letter, what stands behind it."""
    need_spot(scope, weave, spot)
    ahead, letter, behind = pieces_around(weave, spot)
    # Pieces are shortened since whole copies of large parts would break the bound on nodes too early.
    before = halved(shortened(ahead))
    after = halved(shortened(behind))
    need_room((before, after))
    return before, letter, after
