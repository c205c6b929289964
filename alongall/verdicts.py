"""Whether sentences hold in all orders of a kind, in none, or in some."""

from alongall.algebras import mask_of, worth_of
from alongall.compiling import reader_below
from alongall.errors import BadSentence
from alongall.formulas import is_sentence
from alongall.kinds import is_of_kind, need_kind
from alongall.mixing import masks_in
from alongall.plain import head_of, is_lot_below
from alongall.weaves import is_weave
from alongall.weighed import WAYS, first_of, weighed


def need_sentence(sentence, kind):
    """BadSentence, then BadKind."""
    if not is_sentence(sentence):
        raise BadSentence("no sentence")
    need_kind(kind)


def verdict_in(sentence, kind):
    """Whether the sentence holds always, never, or both, in the countable orders of the kind, with what shows it."""
    need_sentence(sentence, kind)
    _, _, algebra, starts, taken = reader_below(sentence)
    found = weighed(algebra, (), starts, kind)
    one = first_of(found, taken)
    other = first_of(found, [a for a in found if a not in taken])
    lot = tuple(sorted(found))
    if other is None:
        return "always", lot
    if one is None:
        return "never", lot
    return "both", one, other


def is_closed_for(kind, algebra, lot):
    """Whether all that is made of words of the kind with values in a lot has its value in it."""
    _, _, then, on, back, mix = algebra
    if not all(then[a][b] in lot for a in lot for b in lot):
        return False
    ways = WAYS[kind]
    if "on" in ways and not all(on[a] in lot for a in lot):
        return False
    if "back" in ways and not all(back[a] in lot for a in lot):
        return False
    return "mix" not in ways or all(mix[mask] in lot for mask in masks_in(mask_of(lot)))


def is_lot_for(reader, kind, head, thing):
    """Whether any value is a lot that shows that the sentence of a reader holds always, or never."""
    _, _, algebra, starts, taken = reader
    if not is_lot_below(thing, algebra[1]) or 0 not in thing or starts[0] not in thing:
        return False
    if not all((a in taken) == (head == "always") for a in thing):
        return False
    return is_closed_for(kind, algebra, thing)


def is_weave_for(reader, kind, right, thing):
    """Whether any value is a weave of the kind that a reader takes, if right is True, or does not take."""
    _, _, algebra, starts, taken = reader
    if not is_weave((), thing) or not is_of_kind(kind, thing):
        return False
    return (worth_of(algebra, (), starts, thing) in taken) == right


def is_verdict_in(sentence, kind, thing):
    """Whether any value is such a verdict, with what shows it."""
    need_sentence(sentence, kind)
    reader = reader_below(sentence)
    head = head_of(thing)
    if head in ("always", "never") and len(thing) == 2:
        return is_lot_for(reader, kind, head, thing[1])
    if head != "both" or len(thing) != 3:
        return False
    return is_weave_for(reader, kind, True, thing[1]) and is_weave_for(reader, kind, False, thing[2])
