"""Formulas of sets of places, long ones with shorts, and sentences."""

from alongall.errors import BadFormula
from alongall.plain import head_of
from alongall.words import is_name

MOST_NODES = 60
MOST_FREE = 3
ATOMS = {"sub": 3, "ahead": 3, "one": 2}
SHORTS = {
    "bare": 2, "same": 3, "apart": 3, "first": 3, "last": 3, "next": 3,
    "down": 2, "dense": 2, "finite": 2, "well": 2, "scattered": 2,
}
JOINTS = {"not": 2, "both": 3, "either": 3, "some": 3, "all": 3}


def is_named(thing, long):
    """Whether a tuple is just so long, with names behind its head."""
    return len(thing) == long and all(is_name(name) for name in thing[1:])


def is_short(thing):
    """Whether any value is a short."""
    head = head_of(thing)
    return head in SHORTS and is_named(thing, SHORTS[head])


def is_atom(thing, shorts):
    """Whether any value is an atom, or, if shorts is True, a short."""
    head = head_of(thing)
    if head in ATOMS:
        return is_named(thing, ATOMS[head])
    return shorts and is_short(thing)


def is_bound(formula):
    """Whether it begins with some or all."""
    return formula[0] in ("some", "all")


def parts_in(formula):
    """The formulas right below a formula that is no atom."""
    return formula[2:] if is_bound(formula) else formula[1:]


def is_joint(thing):
    """Whether any value is built on top as a formula that is no atom, whatever its parts are."""
    head = head_of(thing)
    if head not in JOINTS or len(thing) != JOINTS[head]:
        return False
    return not is_bound(thing) or is_name(thing[1])


def measured(thing, shorts, most):
    """A pair: the number of its nodes and its free names; (0, ()) for no formula, or one with more nodes."""
    if most < 1:
        return 0, ()
    if is_atom(thing, shorts):
        return 1, tuple(sorted(set(thing[1:])))
    if not is_joint(thing):
        return 0, ()
    nodes = 1
    free = ()
    for part in parts_in(thing):
        more, names = measured(part, shorts, most - nodes)
        if more == 0:
            return 0, ()
        nodes = nodes + more
        free = free + names
    names = sorted(set(free))
    if is_bound(thing):
        names = [name for name in names if name != thing[1]]
    return (nodes, tuple(names)) if len(names) <= MOST_FREE else (0, ())


def is_formula(thing):
    """Whether any value is a formula without shorts."""
    return measured(thing, False, MOST_NODES)[0] > 0


def is_long(thing):
    """Whether any value is a formula, perhaps a long one."""
    return measured(thing, True, MOST_NODES)[0] > 0


def is_sentence(thing):
    """Whether any value is a formula, perhaps a long one, without free names."""
    nodes, free = measured(thing, True, MOST_NODES)
    return nodes > 0 and free == ()


def need_measured(formula):
    """What measured tells of a long formula; BadFormula for any other value."""
    nodes, free = measured(formula, True, MOST_NODES)
    if nodes == 0:
        raise BadFormula("no formula")
    return nodes, free


def free_names(formula):
    """The scope of the free names of a formula, perhaps a long one."""
    return need_measured(formula)[1]


def nodes_in(formula):
    """How many nodes a formula, perhaps a long one, has."""
    return need_measured(formula)[0]
