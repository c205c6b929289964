"""Lots of elements of an algebra, told by sums of 2 ** a, and what comes of them.

A family is a number that tells lots: the sum of 2 ** m for the sums m of its lots.
"""

from alongall.algebras import lot_in


def masks_in(whole):
    """All lots in a lot but the empty one, told by their sums."""
    found = []
    lot = whole
    while lot > 0:
        found.append(lot)
        lot = (lot - 1) & whole
    return found


def meets_all(lot, kinds):
    """Whether a lot has an element of each kind."""
    return all(lot & kind for kind in kinds)


def union_of(masks):
    """The lot of all that is in one of some lots."""
    whole = 0
    for mask in masks:
        whole = whole | mask
    return whole


def families_of(mix, many):
    """For each element the family of the lots whose mix it is."""
    families = [0] * many
    bit = 1
    for element in mix:
        families[element] = families[element] | bit
        bit = bit << 1
    return families


class Mixing:
    """An algebra, and what has been worked out of its lots."""

    def __init__(self, algebra):
        self.many = algebra[1]
        self.algebra = algebra
        self.families = families_of(algebra[5], algebra[1])
        self.bits = [[1 << b for b in row] for row in algebra[2]]
        self.within_known = {}
        self.products_known = {}
        self.ends_known = {}
        self.closed_known = {}

    def rows_of(self, row, lot):
        """The lot of what a row tells of the elements of a lot."""
        found = 0
        for a in lot_in(lot):
            found = found | 1 << row[a]
        return found

    def ons(self, lot):
        """The lot of on(a), a of a lot."""
        return self.rows_of(self.algebra[3], lot)

    def backs(self, lot):
        """The lot of back(a), a of a lot."""
        return self.rows_of(self.algebra[4], lot)

    def products(self, one, other):
        """The lot of all a b, a of one, b of other."""
        key = (one, other)
        if key not in self.products_known:
            found = 0
            behind = lot_in(other)
            for a in lot_in(one):
                row = self.bits[a]
                for b in behind:
                    found = found | row[b]
            self.products_known[key] = found
        return self.products_known[key]

    def plus(self, lot):
        """The lot of all products of one or more elements of a lot."""
        whole = lot
        while True:
            more = whole | self.products(whole, lot)
            if more == whole:
                return whole
            whole = more

    def ends(self, lot):
        """A pair: on_of and back_of of a lot."""
        if lot not in self.ends_known:
            whole = self.plus(lot)
            self.ends_known[lot] = (self.products(whole, self.ons(whole)), self.products(self.backs(whole), whole))
        return self.ends_known[lot]

    def on_of(self, lot):
        """The lot of all s on(e), s and e products of elements of a lot."""
        return self.ends(lot)[0]

    def back_of(self, lot):
        """The lot of all back(e) s, s and e products of elements of a lot."""
        return self.ends(lot)[1]

    def within(self, lot):
        """The family of all lots in a lot."""
        if lot not in self.within_known:
            family = 1
            for a in lot_in(lot):
                family = family | family << (1 << a)
            self.within_known[lot] = family
        return self.within_known[lot]

    def mixes_in(self, family):
        """The lot of the mixes of all lots of a family."""
        found = 0
        for a, told in enumerate(self.families):
            if told & family:
                found = found | 1 << a
        return found

    def mixes(self, whole, some):
        """The lot of the mixes of all lots in whole that have an element of some."""
        return self.mixes_in(self.within(whole) ^ self.within(whole & ~some))

    def even_mixes(self, whole, kinds):
        """The lot of the mixes of all lots in whole that have an element of each kind."""
        family = self.within(whole)
        for kind in kinds:
            family = family & ~self.within(whole & ~kind)
        return self.mixes_in(family)

    def beside(self, whole, mixed):
        """The lot of all y, y a, a y and a y b, y of mixed, a and b of whole."""
        ahead = self.products(whole, mixed)
        return mixed | ahead | self.products(mixed, whole) | self.products(ahead, whole)

    def due(self, whole, mixed):
        """The lot of what a closed lot must have, whole being of all kinds together, if it has mixed."""
        ends = self.products(mixed, whole)
        begins = self.products(whole, mixed)
        beside = mixed | begins | ends | self.products(begins, whole)
        found = self.mixes(whole | beside, beside)
        found = found | self.products(mixed, mixed) | self.products(ends, mixed)
        return found | self.on_of(mixed | ends) | self.back_of(mixed | begins)

    def closed(self, whole, mixed):
        """The least closed lot that has mixed in it, whole being of all kinds together."""
        lots = []
        while (whole, mixed) not in self.closed_known:
            lots.append(mixed)
            more = mixed | self.due(whole, mixed)
            if more == mixed:
                self.closed_known[(whole, mixed)] = mixed
            mixed = more
        found = self.closed_known[(whole, mixed)]
        for lot in lots:
            self.closed_known[(whole, lot)] = found
        return found

    def mix_of(self, kinds):
        """The least closed lot of some kinds."""
        whole = union_of(kinds)
        return self.closed(whole, self.even_mixes(whole, kinds))
