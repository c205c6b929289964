"""Rounds formulas, which speak of single places by names."""

from alongall.errors import BadRounds
from alongall.plain import head_of
from alongall.spreading import need_fitting
from alongall.words import is_name

MOST_NODES = 4000
MOST_DEEP = 60
ROUND_SHAPES = {"bears": 3, "before": 3, "same": 3, "not": 2, "both": 3, "either": 3, "some": 3, "all": 3}
ATOM_HEADS = ("bears", "before", "same")
BINDERS = ("some", "all")


def forms_in(formula):
    """The rounds formulas right below one."""
    if formula[0] in ATOM_HEADS:
        return ()
    return formula[2:] if formula[0] in BINDERS else formula[1:]


def names_at(formula):
    """The names that stand in a node itself."""
    if formula[0] in ATOM_HEADS:
        return formula[1:]
    return formula[1:2] if formula[0] in BINDERS else ()


def is_form(thing):
    """Whether any value is built on top as a rounds formula, whatever the formulas below it are."""
    head = head_of(thing)
    if head not in ROUND_SHAPES or len(thing) != ROUND_SHAPES[head]:
        return False
    return all(is_name(name) for name in names_at(thing))


def forms_at_most(thing, deep, most):
    """How many nodes it has; 0 for what is not so built, for what is deeper, or has more."""
    if deep < 1 or most < 1 or not is_form(thing):
        return 0
    nodes = 1
    for part in forms_in(thing):
        more = forms_at_most(part, deep - 1, most - nodes)
        if more == 0:
            return 0
        nodes = nodes + more
    return nodes


def collect(formula, places, marks):
    """Puts the names of places and of marks in a formula into two dicts."""
    names = names_at(formula)
    if formula[0] == "bears":
        marks[names[1]] = True
        names = names[:1]
    for name in names:
        places[name] = True
    for part in forms_in(formula):
        collect(part, places, marks)


def names_kept_apart(formula):
    """A pair: the names of places and those of marks."""
    places = {}
    marks = {}
    collect(formula, places, marks)
    return sorted(places), sorted(marks)


def is_rounds(thing):
    """Whether any value is a rounds formula."""
    if forms_at_most(thing, MOST_DEEP, MOST_NODES) == 0:
        return False
    places, marks = names_kept_apart(thing)
    return not any(name in places for name in marks)


def need_rounds(formula):
    """BadRounds for any value that is no rounds formula."""
    if not is_rounds(formula):
        raise BadRounds("no rounds formula")


def loose_in(formula):
    """What loose tells of what is a rounds formula."""
    if formula[0] == "bears":
        return formula[1:2]
    found = list(names_at(formula)) if formula[0] in ATOM_HEADS else []
    for part in forms_in(formula):
        found.extend(loose_in(part))
    bound = names_at(formula) if formula[0] in BINDERS else ()
    return tuple(sorted({name for name in found if name not in bound}))


def loose(formula):
    """The ascending tuple of the names of places that are free."""
    need_rounds(formula)
    return loose_in(formula)


def rounds_in(formula):
    """What rounds_of tells of what is a rounds formula."""
    inner = max([rounds_in(part) for part in forms_in(formula)], default=0)
    return inner + (1 if formula[0] in BINDERS else 0)


def rounds_of(formula):
    """How many some and all stand within one another at most."""
    need_rounds(formula)
    return rounds_in(formula)


def told_in_sets(formula):
    """What in_sets tells, however large."""
    head = formula[0]
    if head == "bears":
        return ("sub", formula[1], formula[2])
    if head == "before":
        return ("ahead", formula[1], formula[2])
    if head == "same":
        return ("both", ("sub", formula[1], formula[2]), ("sub", formula[2], formula[1]))
    if head == "some":
        return (head, formula[1], ("both", ("one", formula[1]), told_in_sets(formula[2])))
    if head == "all":
        return (head, formula[1], ("either", ("not", ("one", formula[1])), told_in_sets(formula[2])))
    return (head,) + tuple([told_in_sets(part) for part in formula[1:]])


def in_sets(formula):
    """The formula that says the same of sets of one place each."""
    need_rounds(formula)
    told = told_in_sets(formula)
    need_fitting(told)
    return told
