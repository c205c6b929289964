"""Ties: pairs of elements of two readers that show that these take the same words."""

from alongall.algebras import worth_of
from alongall.building import is_pair_of
from alongall.changing import widened_least
from alongall.compiling import reader_below
from alongall.errors import BadFormula, BadScope, TooMany
from alongall.formulas import MOST_FREE, MOST_NODES, measured
from alongall.plain import head_of, is_ascending
from alongall.readers import need_readers
from alongall.scopes import scope_of
from alongall.walks import codes_of, mix_of_code, pair_table, pairs_met, places_in, then_of_pairs
from alongall.weaves import is_weave
from alongall.weighed import first_of, weighed

MOST_TIED = 12


def unlike_pairs(one, other, pairs):
    """The pairs of which just one element is taken."""
    return [(a, b) for a, b in pairs if (a in one[4]) != (b in other[4])]


def tied_pairs(one, other):
    """The pairs met from those of the starts, in order; TooMany(12)."""
    return pairs_met(one[2], other[2], list(zip(one[3], other[3])), MOST_TIED)


def made_of(one, other, pairs):
    """What then, on, back and mix make of some pairs of elements of two algebras."""
    found = [then_of_pairs(one, other, first, second) for first in pairs for second in pairs]
    found.extend([(one[3][a], other[3][b]) for a, b in pairs])
    found.extend([(one[4][a], other[4][b]) for a, b in pairs])
    return found + [mix_of_code(one, other, code) for code in codes_of(pairs)]


def tie(one, other):
    """The tie of fewest pairs, None if there is none."""
    need_readers(one, other)
    met = tied_pairs(one, other)
    return None if len(unlike_pairs(one, other, met)) > 0 else tuple(sorted(met))


def is_tie_of(one, other, thing):
    """What is_tie tells of what are readers of one scope."""
    if not isinstance(thing, tuple):
        return False
    if len(thing) > MOST_TIED:
        raise TooMany(MOST_TIED)
    if not all(is_pair_of(one[2], other[2], pair) for pair in thing) or not is_ascending(thing):
        return False
    if not all(pair in thing for pair in [(0, 0)] + list(zip(one[3], other[3]))):
        return False
    if len(unlike_pairs(one, other, thing)) > 0:
        return False
    return all(pair in thing for pair in made_of(one[2], other[2], thing))


def is_tie(one, other, thing):
    """Whether any value is a tie of the two readers."""
    need_readers(one, other)
    return is_tie_of(one, other, thing)


def need_formula(formula):
    """The free names of a formula without shorts; BadFormula for any other value."""
    nodes, free = measured(formula, False, MOST_NODES)
    if nodes == 0:
        raise BadFormula("no formula")
    return free


def both_readers(one, other):
    """The readers of two formulas, of the words with the names of both."""
    scope = scope_of(need_formula(one) + need_formula(other))
    if len(scope) > MOST_FREE:
        raise BadScope("more than 3 free names together")
    first = reader_below(one)
    second = reader_below(other)
    return widened_least(first, scope), widened_least(second, scope)


def parting_weave(one, other, met, unlike):
    """The least weave whose pair of values is one of the unlike ones; met are the pairs met."""
    places = places_in(met)
    table = pair_table(one[2], other[2], met)
    found = weighed(table, one[1], [places[pair] for pair in zip(one[3], other[3])], "any")
    return first_of(found, [places[pair] for pair in unlike])


def sameness(one, other):
    """("same", tie) if both formulas hold in the same words, otherwise ("parted", weave)."""
    first, second = both_readers(one, other)
    met = tied_pairs(first, second)
    unlike = unlike_pairs(first, second, met)
    if len(unlike) == 0:
        return "same", tuple(sorted(met))
    return "parted", parting_weave(first, second, met, unlike)


def is_sameness(one, other, thing):
    """Whether any value is such a pair."""
    first, second = both_readers(one, other)
    head = head_of(thing)
    if head not in ("same", "parted") or len(thing) != 2:
        return False
    if head == "same":
        return is_tie_of(first, second, thing[1])
    _, scope, algebra, starts, taken = first
    if not is_weave(scope, thing[1]):
        return False
    by_one = worth_of(algebra, scope, starts, thing[1]) in taken
    return by_one != (worth_of(second[2], scope, second[3], thing[1]) in second[4])
