"""Full words: looks of places formulas, and values of words that guess where the looks are due.

A look is a formula that begins with until or since. A value has a pair (sees, fits) for each look.
"""

from alongall.errors import TooMany
from alongall.placed import MOST_NODES, heads_at_most, names_among
from alongall.plain import is_below, is_number, is_row_below
from alongall.scopes import scope_of
from alongall.sight import is_true

MOST_LOOKS = 2


def looks_below(formula):
    """The looks in a formula, as often as they stand in it."""
    if formula[0] == "mark":
        return []
    found = [formula] if formula[0] in ("until", "since") else []
    for part in formula[1:]:
        found.extend(looks_below(part))
    return found


def unlike_in_order(looks):
    """Looks in order, each once."""
    kept = []
    # Formulas may be too deep for the members of a set.
    for look in sorted(looks):
        if len(kept) == 0 or kept[-1] != look:
            kept.append(look)
    return kept


def names_in(formula):
    """The ascending tuple of the names of what is a places formula."""
    return names_among(heads_at_most(formula, MOST_NODES))


def numbered_looks(formula, looks):
    """The formula, its looks told by their numbers."""
    if formula[0] == "mark":
        return formula
    if formula[0] in ("until", "since"):
        return ("look", looks.index(formula))
    return (formula[0],) + tuple([numbered_looks(part, looks) for part in formula[1:]])


class Full:
    """The names and the looks of some places formulas, the laters first."""

    def __init__(self, formulas):
        names = []
        looks = []
        for formula in formulas:
            names.extend(names_in(formula))
            looks.extend(looks_below(formula))
        self.names = scope_of(names)
        self.laters = unlike_in_order([look for look in looks if look[0] == "until"])
        self.earliers = unlike_in_order([look for look in looks if look[0] == "since"])
        self.looks = self.laters + self.earliers
        if len(self.looks) > MOST_LOOKS:
            raise TooMany(MOST_LOOKS)
        self.ways = [look[0] == "until" for look in self.looks]
        self.truths = [[numbered_looks(part, self.looks) for part in look[1:]] for look in self.looks]

    def numbered(self, formula):
        """One of the formulas, its looks told by their numbers."""
        return numbered_looks(formula, self.looks)

    def is_letter(self, thing):
        """Whether any value is a full letter."""
        if not isinstance(thing, tuple) or len(thing) != 3:
            return False
        longs = (len(self.names), len(self.laters), len(self.earliers))
        return all(is_row_below(part, 2, long) for part, long in zip(thing, longs))

    def letters(self):
        """The full letters, each a pair of a letter of the names and the bits of the looks."""
        marks = []
        for number in range(1 << len(self.names)):
            marks.append(tuple([name for at, name in enumerate(self.names) if number >> at & 1]))
        return [(letter, bits) for letter in marks for bits in range(1 << len(self.looks))]

    def worth(self, letter, bits):
        """The value of the word of one full letter."""
        found = []
        for at, (between, goal) in enumerate(self.truths):
            sees = (1 if is_true(between, letter, bits) else 0) + (2 if is_true(goal, letter, bits) else 0)
            # The look is due at the only place just if it is due beside the word.
            found.append((sees, 2 if bits >> at & 1 else 1))
        return tuple(found)

    def nothing(self):
        """The value of the word of no place."""
        return ((1, 3),) * len(self.looks)

    def is_value(self, thing):
        """Whether any value is a value."""
        if not isinstance(thing, tuple) or len(thing) != len(self.looks):
            return False
        return all(is_pair(pair) for pair in thing)

    def then(self, one, other):
        """The value of a word behind another one, None if it has none."""
        return whole([then_pair(way, a, b) for way, a, b in zip(self.ways, one, other)])

    def on(self, one):
        """The value of a word again and again without end, None if it has none."""
        return whole([endless_pair(way, pair) for way, pair in zip(self.ways, one)])

    def back(self, one):
        """The value of a word again and again without beginning, None if it has none."""
        return whole([endless_pair(not way, pair) for way, pair in zip(self.ways, one)])

    def mix(self, gathered):
        """The value of the mix of words, their pairs gathered, None if it has none."""
        return whole([mixed_pair(pair) for pair in gathered])


def is_pair(thing):
    """Whether any value is a pair of what is seen, and what fits."""
    if not isinstance(thing, tuple) or len(thing) != 2:
        return False
    sees, fits = thing
    return is_below(sees, 4) and is_number(fits) and 1 <= fits <= 3


def whole(pairs):
    """The value of these pairs, None if nothing fits one of them."""
    if any(pair[1] == 0 for pair in pairs):
        return None
    return tuple(pairs)


def due_through(sees, due):
    """Whether a look is due on one side of a word, 1 or 0, if it is due or not on its other side."""
    return sees >> 1 | (sees & 1 & due)


def seen_through(near, far):
    """What is seen in two words, the near one first."""
    return (near & far & 1) | (near & 2) | ((far & 2) if near & 1 else 0)


def fits_at(fits, due):
    """Whether, 1 or 0, numbers are right if the look is due beside the word or not."""
    return fits >> due & 1


def then_pair(way, one, other):
    """The pair of a word behind another one for a later, if way is True, or an earlier."""
    near, far = (one, other) if way else (other, one)
    fits = 0
    for due in range(2):
        if fits_at(far[1], due) and fits_at(near[1], due_through(far[0], due)):
            fits = fits | 1 << due
    return seen_through(near[0], far[0]), fits


def endless_pair(way, pair):
    """The pair of a word without end for a later, if way is True, or for an earlier."""
    sees, fits = pair
    right = 0
    for due in range(2):
        beyond = due_through(sees, due)
        # A later is due beside each copy as it is beyond all of them; an earlier has a first copy.
        if fits_at(fits, beyond) and (way or fits_at(fits, due)):
            right = right | 1 << due
    if not way:
        # From behind there are always further copies through which a look must go.
        sees = sees if sees & 1 else 0
    return sees, right


def mixed_pair(pair):
    """The pair of a mix whose parts have a gathered pair."""
    sees, fits = pair
    sees = sees if sees & 1 else 0
    right = 0
    for due in range(2):
        if fits_at(fits, due_through(sees, due)):
            right = right | 1 << due
    return sees, right


def gathered_with(gathered, one):
    """Gathered pairs, with those of one word more: clear in all, found in any, fitting all."""
    return tuple([((a & b & 1) | ((a | b) & 2), f & g) for (a, f), (b, g) in zip(gathered, one)])
