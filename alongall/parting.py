"""Words of some of the places of words, and sentences about these places alone."""

from alongall.errors import BadFormula, BadName, BadScope, BadSentence
from alongall.formulas import ATOMS, MOST_NODES, is_bound, is_formula, measured, parts_in
from alongall.hiding import is_one_of
from alongall.making import built
from alongall.markings import scope_without
from alongall.readers import need_reader
from alongall.scopes import letter_number, letter_row
from alongall.spreading import need_fitting
from alongall.weaves import need_weave, parts_of
from alongall.words import is_name

MOST_NAMES = 3


def kept_below(weave, name):
    """What kept tells, all being as it should be."""
    if weave[0] == "letter":
        if name not in weave[1]:
            return ("none",)
        return ("letter", scope_without(weave[1], name))
    return built(weave[0], [kept_below(part, name) for part in parts_of(weave)])


def kept(scope, weave, name):
    """The weave of the places that bear the name alone, without this mark."""
    need_weave(scope, weave)
    if not is_one_of(scope, name):
        raise BadName("no name of the scope")
    return kept_below(weave, name)


def picked(reader, name):
    """The reader of the words whose places that bear the name are taken by themselves."""
    need_reader(reader)
    _, scope, algebra, starts, taken = reader
    if not is_name(name) or name in scope:
        raise BadName("no name, or one of the scope")
    if len(scope) == MOST_NAMES:
        raise BadScope("no room for one more name")
    wide = tuple(sorted(scope + (name,)))
    told = []
    for letter in letter_row(wide):
        told.append(starts[letter_number(scope, letter)] if name in letter else 0)
    return ("reader", wide, algebra, tuple(told), taken)


def bound_names(formula):
    """The names behind some and all in a formula."""
    if formula[0] in ATOMS:
        return []
    found = [formula[1]] if is_bound(formula) else []
    for part in parts_in(formula):
        found.extend(bound_names(part))
    return found


def within(formula, name):
    """The formula whose some and all go to sets of places that bear the name alone."""
    head = formula[0]
    if head in ATOMS:
        return formula
    if head == "some":
        return (head, formula[1], ("both", ("sub", formula[1], name), within(formula[2], name)))
    if head == "all":
        outside = ("not", ("sub", formula[1], name))
        return (head, formula[1], ("either", outside, within(formula[2], name)))
    return (head,) + tuple([within(part, name) for part in formula[1:]])


def relative(sentence, name):
    """The formula that says of the places that bear the name what the sentence says of all places."""
    nodes, free = measured(sentence, False, MOST_NODES)
    if nodes == 0 or free != ():
        raise BadSentence("no sentence")
    if not is_name(name) or name in bound_names(sentence):
        raise BadName("no name, or one that is bound in the sentence")
    told = within(sentence, name)
    need_fitting(told)
    return told


def exchanged(formula):
    """What mirrored tells of what is a formula."""
    head = formula[0]
    if head == "ahead":
        return (head, formula[2], formula[1])
    if head in ATOMS:
        return formula
    if is_bound(formula):
        return (head, formula[1], exchanged(formula[2]))
    return (head,) + tuple([exchanged(part) for part in formula[1:]])


def mirrored(formula):
    """The formula that holds of words turned where this one holds of the words."""
    if not is_formula(formula):
        raise BadFormula("no formula")
    return exchanged(formula)
