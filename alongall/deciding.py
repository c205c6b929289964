"""Whether formulas hold in words, what shows it, and whether one follows from another."""

from alongall.algebras import worth_of
from alongall.changing import widened_least
from alongall.combining import both_least, contrary_least
from alongall.compiling import reader_below
from alongall.errors import BadFormula, BadScope, NoName
from alongall.formulas import is_bound, need_measured
from alongall.making import weave_without
from alongall.markings import marked_to
from alongall.plans import plan_of
from alongall.scopes import scope_of
from alongall.weaves import need_weave
from alongall.weighing import least_taken

MOST_NAMES = 3


def need_names(names, scope):
    """NoName for the first of some names that is not in the scope."""
    for name in names:
        if name not in scope:
            raise NoName(name)


def with_names(weave, scope, names):
    """The weave of a scope without all names but some of it."""
    return weave_without(weave, [name for name in scope if name not in names])


def means(formula, scope, weave):
    """Whether the formula holds in the word of the weave."""
    _, free = need_measured(formula)
    need_weave(scope, weave)
    need_names(free, scope)
    _, _, algebra, starts, taken = reader_below(formula)
    return worth_of(algebra, free, starts, with_names(weave, scope, free)) in taken


def need_bound(formula):
    """BadFormula unless it is some or all of a formula in which the name is free."""
    need_measured(formula)
    if not is_bound(formula) or formula[1] not in need_measured(formula[2])[1]:
        raise BadFormula("no some or all with its name free behind it")


def shown(formula, scope, weave):
    """A pair: a marked weave that shows the formula, for all a weave that shows the contrary, and the road; or None."""
    need_bound(formula)
    need_weave(scope, weave)
    head, name, part = formula
    _, free = need_measured(formula)
    need_names(free, scope)
    _, inner, algebra, starts, taken = reader_below(part)
    plan = plan_of(algebra, inner, starts, name, with_names(weave, scope, free))
    best = plan[2]
    told = [(best[a][0], a) for a in sorted(best) if (a in taken) == (head == "some")]
    if len(told) == 0:
        return None
    return marked_to(plan, inner, name, min(told)[1])


def follows(one, other):
    """None if other holds wherever one does, otherwise a weave in which one holds and other does not."""
    _, free = need_measured(one)
    _, more = need_measured(other)
    scope = scope_of(free + more)
    if len(scope) > MOST_NAMES:
        raise BadScope("more than 3 free names together")
    first = reader_below(one)
    second = reader_below(other)
    return least_taken(both_least(widened_least(first, scope), contrary_least(widened_least(second, scope))))
