"""Surroundings of elements, chains of pairs in them, and surroundings that part elements."""

from alongall.algebras import need_algebra, need_element
from alongall.errors import BadSurroundings
from alongall.merging import need_lot_or_none, need_pairs
from alongall.plain import head_of, is_below, is_lot_below
from alongall.turns import turn_rows, turned_by

MOST_TURNS = 100
MOST_LINKS = 100


def is_turn(algebra, thing):
    """Whether any value is a turn."""
    head = head_of(thing)
    if head in ("on", "back"):
        return len(thing) == 1
    if head in ("left", "right"):
        return len(thing) == 2 and is_below(thing[1], algebra[1])
    return head == "mix" and len(thing) == 2 and is_lot_below(thing[1], algebra[1])


def are_surroundings(algebra, thing):
    """Whether any value is surroundings."""
    if not isinstance(thing, tuple) or len(thing) > MOST_TURNS:
        return False
    return all(is_turn(algebra, turn) for turn in thing)


def all_turned(algebra, surroundings, element):
    """What surroundings make of an element."""
    for turn in surroundings:
        element = turned_by(algebra, turn, element)
    return element


def around(algebra, surroundings, element):
    """What the surroundings make of the element."""
    need_algebra(algebra)
    if not are_surroundings(algebra, surroundings):
        raise BadSurroundings("no surroundings")
    need_element(algebra, element)
    return all_turned(algebra, surroundings, element)


def pairs_around(algebra, pairs):
    """A dict: for each pair that surroundings make of one of pairs, surroundings and its number."""
    rows = turn_rows(algebra)
    found = {}
    for number, pair in enumerate(pairs):
        found.setdefault(pair, ((), number))
    queue = list(found)
    at = 0
    # Nearer pairs come first, so that the surroundings stay short.
    while at < len(queue):
        one, other = queue[at]
        turns, number = found[queue[at]]
        for row, turn in rows:
            pair = (row[one], row[other])
            if pair not in found:
                found[pair] = (turns + (turn,), number)
                queue.append(pair)
        at = at + 1
    return found


def links_between(algebra, pairs):
    """Triples (from, to, link) for all that links lead from and to, one link for each two."""
    found = []
    for (one, other), (turns, number) in pairs_around(algebra, pairs).items():
        found.append((one, other, (turns, number, 0)))
        found.append((other, one, (turns, number, 1)))
    return found


def chain(algebra, pairs, first, last):
    """A chain from first to last, None if there is none."""
    need_algebra(algebra)
    need_pairs(algebra, pairs)
    need_element(algebra, first)
    need_element(algebra, last)
    links = links_between(algebra, pairs)
    found = {first: ()}
    queue = [first]
    at = 0
    while at < len(queue) and last not in found:
        for here, there, link in links:
            if here == queue[at] and there not in found:
                found[there] = found[here] + (link,)
                queue.append(there)
        at = at + 1
    return found.get(last)


def is_link(algebra, pairs, thing):
    """Whether any value is a link."""
    if not isinstance(thing, tuple) or len(thing) != 3:
        return False
    return are_surroundings(algebra, thing[0]) and is_below(thing[1], len(pairs)) and is_below(thing[2], 2)


def is_chain(algebra, pairs, first, last, thing):
    """Whether any value is a chain from first to last."""
    need_algebra(algebra)
    need_pairs(algebra, pairs)
    need_element(algebra, first)
    need_element(algebra, last)
    if not isinstance(thing, tuple) or len(thing) > MOST_LINKS:
        return False
    here = first
    for link in thing:
        if not is_link(algebra, pairs, link):
            return False
        turns, number, way = link
        if all_turned(algebra, turns, pairs[number][way]) != here:
            return False
        here = all_turned(algebra, turns, pairs[number][1 - way])
    return here == last


def parting(algebra, lot, first, last):
    """Surroundings of as few turns as can be that make an element of lot of just one; None if there are none."""
    need_algebra(algebra)
    need_lot_or_none(algebra, lot)
    need_element(algebra, first)
    need_element(algebra, last)
    # Pairs come by the fewest turns first.
    for (one, other), (turns, _) in pairs_around(algebra, ((first, last),)).items():
        if (one in lot) != (other in lot):
            return turns
    return None
