"""Bounds of what is built as a formula, whatever its size."""

from alongall.errors import BadScope, TooMany
from alongall.formulas import JOINTS, MOST_FREE, MOST_NODES, is_bound, parts_in


def spread(formula):
    """A triple: how many nodes it has, its free names, and the most free names of a formula in it."""
    if formula[0] not in JOINTS:
        free = sorted(set(formula[1:]))
        return 1, free, len(free)
    nodes = 1
    names = []
    most = 0
    for part in parts_in(formula):
        more, free, held = spread(part)
        nodes = nodes + more
        names = names + free
        most = max(most, held)
    free = sorted(set(names))
    if is_bound(formula):
        free = [name for name in free if name != formula[1]]
    return nodes, free, max(most, len(free))


def need_fitting(formula):
    """BadScope if a formula in it has too many free names, then TooMany(60) if it has more nodes."""
    nodes, _, most = spread(formula)
    if most > MOST_FREE:
        raise BadScope("a part has more than 3 free names")
    if nodes > MOST_NODES:
        raise TooMany(MOST_NODES)
