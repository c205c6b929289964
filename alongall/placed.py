"""Places formulas, and where they hold in weaves."""

from alongall.errors import BadPlaced
from alongall.plain import head_of
from alongall.sight import Sight
from alongall.spots import need_spot
from alongall.words import is_name

MOST_NODES = 60
MOST_NAMES = 3
MOST_LOOKS = 6
PLACED_SHAPES = {"mark": 2, "not": 2, "both": 3, "either": 3, "until": 3, "since": 3}


def heads_at_most(thing, most):
    """The pairs (head, name, "" where none stands) of all nodes; () if it is not so built, or has more."""
    head = head_of(thing)
    if most < 1 or head not in PLACED_SHAPES or len(thing) != PLACED_SHAPES[head]:
        return ()
    if head == "mark":
        return ((head, thing[1]),) if is_name(thing[1]) else ()
    found = ((head, ""),)
    for part in thing[1:]:
        more = heads_at_most(part, most - len(found))
        if len(more) == 0:
            return ()
        found = found + more
    return found


def names_among(heads):
    """The ascending tuple of the names in pairs of a head and a name."""
    return tuple(sorted({name for head, name in heads if head == "mark"}))


def is_placed(thing):
    """Whether any value is a places formula."""
    heads = heads_at_most(thing, MOST_NODES)
    looks = [head for head, name in heads if head in ("until", "since")]
    return len(heads) > 0 and len(names_among(heads)) <= MOST_NAMES and len(looks) <= MOST_LOOKS


def need_placed(formula):
    """BadPlaced for any value that is no places formula."""
    if not is_placed(formula):
        raise BadPlaced("no places formula")


def names_of(formula):
    """The scope of the names of a places formula."""
    need_placed(formula)
    return names_among(heads_at_most(formula, MOST_NODES))


def turned_round(formula):
    """The formula with until and since exchanged."""
    head = formula[0]
    if head == "mark":
        return formula
    if head == "until":
        head = "since"
    elif head == "since":
        head = "until"
    return (head,) + tuple([turned_round(part) for part in formula[1:]])


def mirrored(formula):
    """The places formula with until and since exchanged."""
    need_placed(formula)
    return turned_round(formula)


def there(scope, formula, weave, spot):
    """Whether the formula holds at the places of the spot."""
    need_placed(formula)
    need_spot(scope, weave, spot)
    return Sight(formula, weave).is_true_at(spot)
