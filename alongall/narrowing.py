"""Rounds formulas told so that each some and all reaches no further than its name.

A told formula is a quadruple (head, free, rounds, data), free its free names, rounds how many some and
all stand within one another in it at most. The heads, with their data:

- "atom": a pair of a truth and an atom, which is so, or not so, as the truth says;
- "both", "either": the tuple of its parts, one at least, those with fewer rounds first;
- "some", "all": a pair of a name and a part in which it is free;
- "places": a truth: whether the word has any place or has none.
"""

from alongall.roundforms import ATOM_HEADS, BINDERS, loose_in

OTHERS = {"both": "either", "either": "both", "some": "all", "all": "some"}
# The joint into each part of which some or all may be put.
SPREADS = {"some": "either", "all": "both"}


def by_rounds(parts):
    """Parts in order, those with fewer rounds first."""
    order = sorted([(part[2], at) for at, part in enumerate(parts)])
    return tuple([parts[at] for _, at in order])


def joined(head, parts):
    """Both, or either, of some parts, one at least; what is joined in the same way is put among them."""
    row = []
    for part in parts:
        row.extend(part[3] if part[0] == head else [part])
    if len(row) == 1:
        return row[0]
    free = []
    for part in row:
        free.extend(part[1])
    return (head, tuple(sorted(set(free))), max([part[2] for part in row]), by_rounds(row))


def binding(head, name, part):
    """Some or all of a name of a told formula, put as far inwards as can be."""
    spread = SPREADS[head]
    if name not in part[1]:
        # Any place would do, if there is one.
        return joined(OTHERS[spread], [part, ("places", (), 1, head == "some")])
    if part[0] == spread:
        return joined(spread, [binding(head, name, one) for one in part[3]])
    if part[0] == OTHERS[spread]:
        reached = [one for one in part[3] if name in one[1]]
        left = [one for one in part[3] if name not in one[1]]
        if len(left) > 0:
            return joined(part[0], left + [binding(head, name, joined(part[0], reached))])
    return (head, tuple([other for other in part[1] if other != name]), part[2] + 1, (name, part))


def narrowed(formula, truth):
    """A told formula that says that a rounds formula is so, or not so, as truth says."""
    head = formula[0]
    if head in ATOM_HEADS:
        return ("atom", loose_in(formula), 0, (truth, formula))
    if head == "not":
        return narrowed(formula[1], not truth)
    if not truth:
        head = OTHERS[head]
    if head in BINDERS:
        return binding(head, formula[1], narrowed(formula[2], truth))
    return joined(head, [narrowed(part, truth) for part in formula[1:]])
