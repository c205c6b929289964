"""Walks: what comes of some pairs of elements of two algebras, in the order in which it is met.

What is done to pairs, by then, on, back and mix, is done in both algebras. A lot of pairs is told by
a code: the sum of 2 ** a for its first elements, and of 2 ** (b + 16) for its second ones, 0 left
out, which changes no mix.
"""

from alongall.errors import TooMany

NOTHING = ("algebra", 1, ((0,),), (0,), (0,), (0, 0))
SECOND = 16
FIRST_BITS = 65535


def code_of(pair):
    """The code of a lot of one pair."""
    a, b = pair
    return (1 << a if a > 0 else 0) | (1 << (b + SECOND) if b > 0 else 0)


def then_of_pairs(one, other, first, second):
    """The then of two pairs."""
    return one[2][first[0]][second[0]], other[2][first[1]][second[1]]


def mix_of_code(one, other, code):
    """The mix of a lot of pairs."""
    return one[5][code & FIRST_BITS], other[5][code >> SECOND]


def codes_of(pairs):
    """The codes of all lots of some pairs, by the sums of 2 ** i, i the places of the pairs."""
    codes = [0]
    for pair in pairs:
        bit = code_of(pair)
        codes = codes + [code | bit for code in codes]
    return codes


class Walk:
    """The pairs met so far in their order, and the codes of the lots of those that have been mixed."""

    def __init__(self, one, other, most):
        self.one = one
        self.other = other
        self.most = most
        self.line = []
        self.places = {}
        self.codes = [0]
        self.known = {0: True}

    def meet(self, pair):
        """Meets a pair; TooMany for more than most."""
        if pair not in self.places:
            self.places[pair] = len(self.line)
            self.line.append(pair)
            if len(self.line) > self.most:
                raise TooMany(self.most)

    def is_whole(self):
        """Whether there is nothing more to be met."""
        return len(self.line) == self.one[1] * self.other[1]

    def go(self, given):
        """Meets all that a walk from the given pairs meets."""
        for pair in [(0, 0)] + list(given):
            self.meet(pair)
        old = 0
        while old < len(self.line) and not self.is_whole():
            now = len(self.line)
            # What comes of pairs gone through before has been met.
            self.meet_products(self.line[:now], old)
            self.meet_ends(self.line[old:now])
            self.meet_mixes(self.line[old:now])
            old = now

    def meet_products(self, pairs, old):
        """Meets the then of all two of some pairs, those with two of the first ones, so many, left out."""
        known = self.places
        new = pairs[old:]
        for at, (a, b) in enumerate(pairs):
            row = self.one[2][a]
            row_too = self.other[2][b]
            behind = pairs if at >= old else new
            for c, d in behind:
                if (row[c], row_too[d]) not in known:
                    self.meet((row[c], row_too[d]))

    def meet_ends(self, pairs):
        """Meets on and back of some pairs."""
        _, _, _, on, back, _ = self.one
        _, _, _, on_too, back_too, _ = self.other
        for a, b in pairs:
            self.meet((on[a], on_too[b]))
            self.meet((back[a], back_too[b]))

    def meet_mixes(self, pairs):
        """Meets the mixes of all lots with one of some pairs, and pairs ahead of it."""
        known = self.known
        for pair in pairs:
            bit = code_of(pair)
            for code in list(self.codes):
                if code | bit not in known:
                    known[code | bit] = True
                    self.codes.append(code | bit)
                    self.meet(mix_of_code(self.one, self.other, code | bit))


def pairs_met(one, other, given, most):
    """The pairs that a walk from the given ones meets, in order; TooMany for more than most."""
    walk = Walk(one, other, most)
    walk.go(given)
    return walk.line


def numbers_met(table, given):
    """The numbers of a table that a walk from the given ones meets, in order."""
    return [a for a, _ in pairs_met(table, NOTHING, [(a, 0) for a in given], table[1])]


def places_in(line):
    """For each thing of a row its place, from 0."""
    return {thing: place for place, thing in enumerate(line)}


def pair_table(one, other, line):
    """The table whose elements are the places of pairs, all that is met."""
    places = places_in(line)
    then = [tuple([places[then_of_pairs(one, other, first, second)] for second in line]) for first in line]
    on = [places[(one[3][a], other[3][b])] for a, b in line]
    back = [places[(one[4][a], other[4][b])] for a, b in line]
    mix = [places[mix_of_code(one, other, code)] for code in codes_of(line)]
    return ("algebra", len(line), tuple(then), tuple(on), tuple(back), tuple(mix))


def table_of_some(table, line, places):
    """The table of the numbers in line; places tells for each of the table what it is there."""
    _, _, then, on, back, mix = table
    told = [tuple([places[then[a][b]] for b in line]) for a in line]
    masks = [0]
    for a in line:
        bit = 1 << a
        masks = masks + [mask | bit for mask in masks]
    mixes = [places[mix[mask]] for mask in masks]
    ends = (tuple([places[on[a]] for a in line]), tuple([places[back[a]] for a in line]))
    return ("algebra", len(line), tuple(told)) + ends + (tuple(mixes),)
