"""Marks put on places of a word such that it gets a value."""

from alongall.algebras import need_algebra, need_element, worth_of
from alongall.errors import BadName, BadStarts, BadWeave, TooMany
from alongall.hiding import is_one_of, lots_of_letters
from alongall.laying import laid_out
from alongall.lots import lot_over
from alongall.making import put_in, weave_without
from alongall.plain import is_row_below
from alongall.plans import plan_of
from alongall.scopes import need_scope
from alongall.steps import end_of
from alongall.weaves import MOST_DEEP, MOST_NODES, is_weave


def scope_without(scope, name):
    """The scope without a name."""
    return tuple([other for other in scope if other != name])


def need_marks(algebra, scope, starts, name, weave):
    """The errors of all functions of this file."""
    need_algebra(algebra)
    need_scope(scope)
    if not is_row_below(starts, algebra[1], 1 << len(scope)):
        raise BadStarts("no element for each letter")
    if not is_one_of(scope, name):
        raise BadName("no name of the scope")
    if not is_weave(scope_without(scope, name), weave):
        raise BadWeave("no weave of the scope without the name")


def need_road(scope, weave, road):
    """TooMany(400) if a step of a road that could be gone leads to what is no weave."""
    for path, part in road:
        weave = put_in(weave, path, part)
        if not is_weave(scope, weave):
            raise TooMany(MOST_NODES)


def marked_to(plan, scope, name, element):
    """The marked weave and the road for an element that has one."""
    nodes = plan[2][element][0]
    # What has far too many nodes is not even built.
    if nodes > MOST_NODES:
        raise TooMany(MOST_NODES)
    marked, bare, road = laid_out(plan, element, MOST_DEEP)
    if not is_weave(scope, marked):
        raise TooMany(MOST_NODES)
    need_road(scope_without(scope, name), bare, road)
    return marked, tuple(road)


def marking(algebra, scope, starts, name, weave, element):
    """A pair: the weave with marks, which has the value, and the road from it without them; None if there is none."""
    need_marks(algebra, scope, starts, name, weave)
    need_element(algebra, element)
    plan = plan_of(algebra, scope, starts, name, weave)
    if element not in plan[2]:
        return None
    return marked_to(plan, scope, name, element)


def is_marking(algebra, scope, starts, name, weave, element, thing):
    """Whether any value is such a pair."""
    need_marks(algebra, scope, starts, name, weave)
    need_element(algebra, element)
    if not isinstance(thing, tuple) or len(thing) != 2:
        return False
    marked, road = thing
    if not is_weave(scope, marked) or worth_of(algebra, scope, starts, marked) != element:
        return False
    return end_of(scope_without(scope, name), weave_without(marked, (name,)), road) == weave


def marked_values(algebra, scope, starts, name, weave):
    """The lot of the values that come of the weave with marks."""
    need_marks(algebra, scope, starts, name, weave)
    lots = lots_of_letters(scope, starts, name)
    return lot_over(algebra, scope_without(scope, name), lots, weave)
