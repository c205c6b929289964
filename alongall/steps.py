"""Rules, by which weaves tell the same word, and roads of them."""

from alongall.errors import BadRoad
from alongall.making import mix_with, part_by, path_leads, put_in
from alongall.weaves import is_weave, need_weave

NONE = ("none",)


def is_none_row(one, other):
    """Whether two weaves are a row of "none"."""
    head = one[0]
    if head == "then" and one[1] == NONE and one[2] == other:
        return True
    if head == "then" and one[2] == NONE and one[1] == other:
        return True
    if one in (("on", NONE), ("back", NONE), ("mix", (NONE,))):
        return other == NONE
    if head != "mix" or NONE not in one[1]:
        return False
    return other == mix_with([part for part in one[1] if part != NONE])


def is_group_row(one, other):
    """Whether two weaves are a row of "group"."""
    if one[0] != "then" or one[1][0] != "then":
        return False
    _, (_, first, second), third = one
    return other == ("then", first, ("then", second, third))


def is_roll_row(one, other):
    """Whether two weaves are a row of "roll"."""
    if one[0] == "on":
        return other == ("then", one[1], one)
    return one[0] == "back" and other == ("then", one, one[1])


def is_shift_row(one, other):
    """Whether two weaves are a row of "shift"."""
    if one[0] not in ("on", "back") or one[1][0] != "then":
        return False
    _, first, second = one[1]
    again = (one[0], ("then", second, first))
    if one[0] == "on":
        return other == ("then", first, again)
    return other == ("then", again, second)


def is_row_of_one(weave, one):
    """Whether a weave is one, one, .. two times or more, the last one innermost."""
    while weave[0] == "then" and weave[1] == one:
        weave = weave[2]
        if weave == one:
            return True
    return False


def is_times_row(one, other):
    """Whether two weaves are a row of "times"."""
    return one[0] in ("on", "back") and other[0] == one[0] and is_row_of_one(other[1], one[1])


def is_dense_row(one, other):
    """Whether two weaves are a row of "dense"."""
    if one[0] != "mix":
        return False
    if other in (("then", one, one), ("on", one), ("back", one)):
        return True
    if other[0] == "then" and other[1] == one:
        return any(other[2] == ("then", part, one) for part in one[1])
    if other[0] == "on":
        return any(other[1] == ("then", one, part) for part in one[1])
    return other[0] == "back" and any(other[1] == ("then", part, one) for part in one[1])


def is_nested(mix, weave):
    """Whether a weave is a mix, perhaps with one of its parts ahead of it, one behind it."""
    if weave == mix:
        return True
    if weave[0] != "then":
        return False
    if weave[1] == mix:
        return weave[2] in mix[1]
    if weave[1] not in mix[1]:
        return False
    if weave[2] == mix:
        return True
    return weave[2][0] == "then" and weave[2][1] == mix and weave[2][2] in mix[1]


def is_nest_row(one, other):
    """Whether two weaves are a row of "nest"."""
    if one[0] != "mix" or other[0] != "mix":
        return False
    left = [part for part in other[1] if part not in one[1]]
    # What holds the mix is none of its parts, so it is among what is left.
    return len(left) > 0 and all(is_nested(one, part) for part in left)


def is_row(one, other):
    """Whether two weaves are the two of a row of the rules, in this order."""
    if is_none_row(one, other) or is_group_row(one, other) or is_roll_row(one, other):
        return True
    if is_shift_row(one, other) or is_times_row(one, other) or is_dense_row(one, other):
        return True
    return is_nest_row(one, other)


def are_rule(one, other):
    """Whether two weaves are a rule."""
    return is_row(one, other) or is_row(other, one)


def need_weaves(scope, one, other):
    """BadScope, then BadWeave for one, then for other."""
    need_weave(scope, one)
    need_weave(scope, other)


def is_rule(scope, one, other):
    """Whether the two weaves are a rule."""
    need_weaves(scope, one, other)
    return are_rule(one, other)


def step_gone(scope, weave, thing):
    """The weave to which any value leads from a weave as a step; None if it is none that can be gone."""
    if not isinstance(thing, tuple) or len(thing) != 2:
        return None
    path, part = thing
    if not path_leads(weave, path) or not is_weave(scope, part):
        return None
    if not are_rule(part_by(weave, path), part):
        return None
    whole = put_in(weave, path, part)
    return whole if is_weave(scope, whole) else None


def end_of(scope, weave, thing):
    """The weave at the end of any value as a road; None if it is none that can be gone."""
    if not isinstance(thing, tuple):
        return None
    for step in thing:
        weave = step_gone(scope, weave, step)
        if weave is None:
            return None
    return weave


def is_road(scope, one, other, thing):
    """Whether any value is a road from one weave to the other."""
    need_weaves(scope, one, other)
    return end_of(scope, one, thing) == other


def gone(scope, weave, road):
    """The weave at the end of the road."""
    need_weave(scope, weave)
    end = end_of(scope, weave, road)
    if end is None:
        raise BadRoad("no road that can be gone from the weave")
    return end
