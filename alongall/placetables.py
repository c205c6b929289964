"""Tables of values of full words, which tell whether a places formula holds anywhere."""

from alongall.errors import BadScope
from alongall.fulling import Full
from alongall.fulltables import FullTable, Gathered, is_right
from alongall.fullwords import full_of
from alongall.placed import MOST_NAMES, names_of
from alongall.plain import is_ascending
from alongall.scopes import scope_of
from alongall.sight import is_true
from alongall.spots import need_room

NONE = ("none",)


def filled_table(full):
    """All values of full words."""
    table = FullTable(full)
    table.fill()
    return table


def goals_of(full, formulas):
    """The full letters at which just one of some formulas, one or two, is true."""
    truths = [full.numbered(formula) for formula in formulas]
    found = []
    for letter, bits in full.letters():
        if sum(1 if is_true(truth, letter, bits) else 0 for truth in truths) == 1:
            found.append((letter, bits))
    return found


def table_of(formula):
    """The table of the formula with fewest values."""
    return tuple(sorted(filled_table(full_of(formula)).found))


def is_table_of(full, thing):
    """Whether any value is a table."""
    if not isinstance(thing, tuple) or not all(full.is_value(one) for one in thing) or not is_ascending(thing):
        return False
    due = [full.nothing()] + [full.worth(letter, bits) for letter, bits in full.letters()]
    lots = Gathered()
    for one in thing:
        due.extend([full.then(one, other) for other in thing])
        due.append(full.on(one))
        due.append(full.back(one))
        lots.add_to_all(one, 0)
    due.extend([full.mix(gathered) for gathered in list(lots.known)])
    there = {one: True for one in thing}
    return all(one is None or one in there for one in due)


def beginnings(full, worths, goals):
    """For each value of a word, and behind it a letter of goals, such a pair; the first one that is found."""
    found = {}
    for worth in worths:
        for letter, bits in goals:
            product = full.then(worth, full.worth(letter, bits))
            if product is not None:
                found.setdefault(product, (worth, letter))
    return found


def has_goal(full, worths, goals):
    """Whether some word of these values is right with nothing beside it and has a letter of goals in it."""
    for product in list(beginnings(full, worths, goals)):
        for worth in worths:
            end = full.then(product, worth)
            if end is not None and is_right(end):
                return True
    return False


def is_bar_table(formula, thing):
    """Whether any value is a table that bars the formula."""
    full = full_of(formula)
    return is_table_of(full, thing) and not has_goal(full, thing, goals_of(full, [formula]))


def least_goal(full, table, goals):
    """The triple of what stands ahead, a letter, what stands behind, with few nodes; None if there is none."""
    best = None
    # The values come in order, fewer nodes first.
    worths = list(table.found)
    for product, (ahead, letter) in beginnings(full, worths, goals).items():
        for behind in worths:
            end = full.then(product, behind)
            if end is not None and is_right(end):
                nodes = table.found[ahead][0] + table.found[behind][0]
                if best is None or nodes < best[0]:
                    best = (nodes, table.found[ahead][1], letter, table.found[behind][1])
    return best


def word_with(full, formulas):
    """A pair of a weave and a spot of it at which just one of some formulas holds; None if there is none."""
    goals = goals_of(full, formulas)
    best = least_goal(full, filled_table(full), goals)
    if best is None:
        return None
    _, ahead, letter, behind = best
    weave = ("letter", letter)
    spot = ()
    if behind != NONE:
        weave = ("then", weave, behind)
        spot = (0,) + spot
    if ahead != NONE:
        weave = ("then", ahead, weave)
        spot = (1,) + spot
    need_room((weave,))
    return weave, spot


def word_for(formula):
    """A pair of a weave and a spot of it at which the formula holds; None if it holds nowhere."""
    return word_with(full_of(formula), [formula])


def places_parted(one, other):
    """A pair of a weave and a spot of it at which just one of the two holds; None if there is none."""
    if len(scope_of(names_of(one) + names_of(other))) > MOST_NAMES:
        raise BadScope("more than 3 names together")
    return word_with(Full([one, other]), [one, other])
