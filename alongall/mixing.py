"""Lots of elements of an algebra, told by sums of 2 ** a, and what comes of them."""


def masks_in(whole):
    """All lots in a lot but the empty one, told by their sums."""
    found = []
    lot = whole
    while lot > 0:
        found.append(lot)
        lot = (lot - 1) & whole
    return found


def meets_all(lot, kinds):
    """Whether a lot has an element of each kind."""
    return all(lot & kind for kind in kinds)


def union_of(masks):
    """The lot of all that is in one of some lots."""
    whole = 0
    for mask in masks:
        whole = whole | mask
    return whole


class Mixing:
    """An algebra, and what has been worked out of its lots."""

    def __init__(self, algebra):
        self.many = algebra[1]
        self.algebra = algebra
        self.products_known = {}
        self.mixes_known = {}

    def rows_of(self, row, lot):
        """The lot of what a row tells of the elements of a lot."""
        found = 0
        for a in range(self.many):
            if lot >> a & 1:
                found = found | 1 << row[a]
        return found

    def ons(self, lot):
        """The lot of on(a), a of a lot."""
        return self.rows_of(self.algebra[3], lot)

    def backs(self, lot):
        """The lot of back(a), a of a lot."""
        return self.rows_of(self.algebra[4], lot)

    def products(self, one, other):
        """The lot of all a b, a of one, b of other."""
        key = (one, other)
        if key not in self.products_known:
            rows = [self.rows_of(self.algebra[2][a], other) for a in range(self.many) if one >> a & 1]
            self.products_known[key] = union_of(rows)
        return self.products_known[key]

    def plus(self, lot):
        """The lot of all products of one or more elements of a lot."""
        whole = lot
        while True:
            more = whole | self.products(whole, lot)
            if more == whole:
                return whole
            whole = more

    def on_of(self, lot):
        """The lot of all s on(e), s and e products of elements of a lot."""
        whole = self.plus(lot)
        return self.products(whole, self.ons(whole))

    def back_of(self, lot):
        """The lot of all back(e) s, s and e products of elements of a lot."""
        whole = self.plus(lot)
        return self.products(self.backs(whole), whole)

    def mixes(self, whole, some):
        """The lot of the mixes of all lots in whole that have an element of some."""
        key = (whole, some)
        if key not in self.mixes_known:
            mix = self.algebra[5]
            self.mixes_known[key] = union_of([1 << mix[lot] for lot in masks_in(whole) if lot & some])
        return self.mixes_known[key]

    def even_mixes(self, whole, kinds):
        """The lot of the mixes of all lots in whole that have an element of each kind."""
        mix = self.algebra[5]
        return union_of([1 << mix[lot] for lot in masks_in(whole) if meets_all(lot, kinds)])

    def beside(self, whole, mixed):
        """The lot of all y, y a, a y and a y b, y of mixed, a and b of whole."""
        ahead = self.products(whole, mixed)
        return mixed | ahead | self.products(mixed, whole) | self.products(ahead, whole)

    def due(self, whole, mixed):
        """The lot of what a closed lot must have, whole being of all kinds together, if it has mixed."""
        ends = self.products(mixed, whole)
        begins = self.products(whole, mixed)
        found = self.mixes(whole | self.beside(whole, mixed), self.beside(whole, mixed))
        found = found | self.products(mixed, mixed) | self.products(ends, mixed)
        return found | self.on_of(mixed | ends) | self.back_of(mixed | begins)

    def mix_of(self, kinds):
        """The least closed lot of some kinds."""
        whole = union_of(kinds)
        mixed = self.even_mixes(whole, kinds)
        while True:
            more = mixed | self.due(whole, mixed)
            if more == mixed:
                return mixed
            mixed = more
