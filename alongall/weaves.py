"""Weaves: trees that tell words."""

from alongall.errors import BadLetters, BadWeave, NotFinite
from alongall.plain import head_of, is_ascending
from alongall.scopes import is_letter, letter_row, need_scope

MOST_NODES = 400
MOST_DEEP = 60
SHAPES = {"none": 1, "letter": 2, "then": 3, "on": 2, "back": 2, "mix": 2}


def letters(scope):
    """The letters of a scope, in order."""
    need_scope(scope)
    return letter_row(scope)


def parts_of(weave):
    """The parts of a weave, in order."""
    if weave[0] == "letter":
        return ()
    if weave[0] == "mix":
        return weave[1]
    return weave[1:]


def is_knot(scope, thing):
    """Whether any value is built as a weave is on top, whatever its parts are."""
    head = head_of(thing)
    if head not in SHAPES or len(thing) != SHAPES[head]:
        return False
    if head == "letter":
        return is_letter(scope, thing[1])
    return head != "mix" or (isinstance(thing[1], tuple) and len(thing[1]) > 0)


def nodes_at_most(scope, thing, deep, most):
    """How many nodes a weave has; 0 for any other value, one that is deeper, or has more."""
    if deep < 1 or most < 1 or not is_knot(scope, thing):
        return 0
    nodes = 1
    for part in parts_of(thing):
        more = nodes_at_most(scope, part, deep - 1, most - nodes)
        if more == 0:
            return 0
        nodes = nodes + more
    # Only now the parts are known to be weaves, which can be compared.
    if thing[0] == "mix" and not is_ascending(thing[1]):
        return 0
    return nodes


def is_weave(scope, thing):
    """Whether any value is a weave of the scope."""
    need_scope(scope)
    return nodes_at_most(scope, thing, MOST_DEEP, MOST_NODES) > 0


def need_weave(scope, weave):
    """BadScope for no scope, then BadWeave for any value that is no weave of it."""
    if not is_weave(scope, weave):
        raise BadWeave("no weave of the scope")


def node_count(weave):
    """How many nodes there are in what is built as a weave, however large."""
    return 1 + sum(node_count(part) for part in parts_of(weave))


def depth_of(weave):
    """How deep it is, whatever is built as a weave."""
    return 1 + max([depth_of(part) for part in parts_of(weave)], default=0)


def size(scope, weave):
    """How many nodes the weave has."""
    need_weave(scope, weave)
    return node_count(weave)


def letters_below(weave):
    """The letters that stand in the weave, as often as they stand in it."""
    if weave[0] == "letter":
        return [weave[1]]
    found = []
    for part in parts_of(weave):
        found.extend(letters_below(part))
    return found


def letters_in(scope, weave):
    """The letters that the places of the word bear, in order."""
    need_weave(scope, weave)
    found = letters_below(weave)
    return tuple([letter for letter in letter_row(scope) if letter in found])


def place_count(weave):
    """How many places the word has, None if endless many."""
    if weave[0] == "letter":
        return 1
    counts = [place_count(part) for part in parts_of(weave)]
    if weave[0] != "then":
        # What goes on without end has no place only if none of its parts has one.
        return 0 if all(count == 0 for count in counts) else None
    return None if None in counts else counts[0] + counts[1]


def length(scope, weave):
    """How many places the word has, None if endless many."""
    need_weave(scope, weave)
    return place_count(weave)


def spelled(scope, weave):
    """The letters of the places of a finite word, first to last; NotFinite for any other one."""
    need_weave(scope, weave)
    if place_count(weave) is None:
        raise NotFinite("the word has endless many places")
    return tuple(letters_below(weave))


def in_row(weaves):
    """The weave of one weave behind the other, the last one innermost."""
    if len(weaves) == 0:
        return ("none",)
    whole = weaves[-1]
    for weave in reversed(weaves[:-1]):
        whole = ("then", weave, whole)
    return whole


def written(scope, row):
    """The weave of a row of letters."""
    need_scope(scope)
    if not isinstance(row, tuple) or len(row) > 20 or not all(is_letter(scope, letter) for letter in row):
        raise BadLetters("no tuple of at most 20 letters of the scope")
    return in_row([("letter", letter) for letter in row])
