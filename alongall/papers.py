"""Papers of readers: a word that is taken, or a closed lot that shows that there is none."""

from alongall.algebras import worth_of
from alongall.kinds import met_of_kind
from alongall.plain import head_of, is_lot_below
from alongall.readers import need_reader
from alongall.verdicts import is_closed_for
from alongall.weaves import is_weave
from alongall.weighing import least_taken


def paper_of(reader):
    """("some", weave), a weave that is taken, or ("none", lot), the least closed lot."""
    need_reader(reader)
    weave = least_taken(reader)
    if weave is None:
        return "none", met_of_kind(reader, "any")
    return "some", weave


def is_closed_lot(reader, thing):
    """Whether any value is a closed lot of a reader."""
    _, _, algebra, starts, _ = reader
    if not is_lot_below(thing, algebra[1]) or 0 not in thing:
        return False
    return all(start in thing for start in starts) and is_closed_for("any", algebra, thing)


def is_paper(reader, thing):
    """Whether any value is a weave that is taken, or a closed lot of which nothing is taken."""
    need_reader(reader)
    _, scope, algebra, starts, taken = reader
    head = head_of(thing)
    if head not in ("some", "none") or len(thing) != 2:
        return False
    if head == "some":
        return is_weave(scope, thing[1]) and worth_of(algebra, scope, starts, thing[1]) in taken
    return is_closed_lot(reader, thing[1]) and not any(element in taken for element in thing[1])
