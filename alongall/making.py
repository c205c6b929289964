"""Weaves turned, without some names, and with another part at a place in them."""

from alongall.errors import BadNames, BadPath, BadWeave
from alongall.plain import is_ascending, is_below
from alongall.weaves import is_weave, need_weave, parts_of

TURNED = {"then": "then", "on": "back", "back": "on"}


def mix_with(parts):
    """The mix of some parts, put in order, each once."""
    kept = []
    # Weaves may be too deep for the members of a set.
    for part in sorted(parts):
        if len(kept) == 0 or part != kept[-1]:
            kept.append(part)
    return ("mix", tuple(kept))


def built(head, parts):
    """The weave with this head and these parts, those of a mix put in order."""
    if head == "mix":
        return mix_with(parts)
    return (head,) + tuple(parts)


def turned_weave(weave):
    """What turned tells of what is a weave."""
    head = weave[0]
    if head in ("none", "letter"):
        return weave
    parts = [turned_weave(part) for part in parts_of(weave)]
    if head == "mix":
        return mix_with(parts)
    return (TURNED[head],) + tuple(parts[::-1])


def turned(scope, weave):
    """The weave of the word from its end to its beginning."""
    need_weave(scope, weave)
    return turned_weave(weave)


def weave_without(weave, names):
    """What without tells of what is a weave."""
    head = weave[0]
    if head == "none":
        return weave
    if head == "letter":
        return ("letter", tuple([name for name in weave[1] if name not in names]))
    return built(head, [weave_without(part, names) for part in parts_of(weave)])


def are_names_of(scope, thing):
    """Whether any value is an ascending tuple of names of the scope."""
    if not isinstance(thing, tuple) or not all(isinstance(name, str) and name in scope for name in thing):
        return False
    return is_ascending(thing)


def without(scope, weave, names):
    """The weave of the scope without some names, whose letters lack them."""
    need_weave(scope, weave)
    if not are_names_of(scope, names):
        raise BadNames("no ascending tuple of names of the scope")
    return weave_without(weave, names)


def path_leads(weave, thing):
    """Whether any value is a path in what is a weave."""
    if not isinstance(thing, tuple):
        return False
    for number in thing:
        if not is_below(number, len(parts_of(weave))):
            return False
        weave = parts_of(weave)[number]
    return True


def need_path(weave, path):
    """BadPath for any value that leads from what is a weave to none in it."""
    if not path_leads(weave, path):
        raise BadPath("no path in the weave")


def part_by(weave, path):
    """The part that a path leads to."""
    for number in path:
        weave = parts_of(weave)[number]
    return weave


def part_at(scope, weave, path):
    """The weave in the weave that the path leads to."""
    need_weave(scope, weave)
    need_path(weave, path)
    return part_by(weave, path)


def put_in(weave, path, part):
    """What is built as a weave, with part where the path leads to."""
    if len(path) == 0:
        return part
    parts = list(parts_of(weave))
    parts[path[0]] = put_in(parts[path[0]], path[1:], part)
    return built(weave[0], parts)


def with_part(scope, weave, path, part):
    """The weave with part where the path leads to."""
    need_weave(scope, weave)
    need_path(weave, path)
    if not is_weave(scope, part):
        raise BadWeave("the part is no weave of the scope")
    whole = put_in(weave, path, part)
    if not is_weave(scope, whole):
        raise BadWeave("what comes is no weave of the scope")
    return whole
