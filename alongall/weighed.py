"""Least weaves: of each value that of the fewest nodes, and of those the first one in order."""

from alongall.scopes import letter_row

# What may be made beside then, for the words of each kind of orders.
WAYS = {
    "finite": (), "well": ("on",), "backwell": ("back",), "scattered": ("on", "back"), "any": ("on", "back", "mix"),
}


class Weighing:
    """A table, and the least weaves of its elements, found in order, fewer nodes first."""

    def __init__(self, table, ways):
        self.table = table
        self.ways = ways
        self.waiting = {}
        self.found = {}
        # Each lot of elements found, () too: its sum of 2 ** a, its elements, its nodes.
        self.lots = [(0, (), 0)]

    def is_less(self, element, nodes):
        """Whether a weave with so many nodes could be the least one of the element."""
        if element in self.found:
            return False
        return element not in self.waiting or nodes <= self.waiting[element][0]

    def offer(self, element, nodes, weave):
        """Keeps the weave if it is the least one of the element so far."""
        if self.is_less(element, nodes):
            if element not in self.waiting or (nodes, weave) < self.waiting[element]:
                self.waiting[element] = (nodes, weave)

    def offer_pair(self, a, b):
        """Offers then of two weaves found."""
        (nodes, weave), (more, other) = self.found[a], self.found[b]
        self.offer(self.table[2][a][b], 1 + nodes + more, ("then", weave, other))

    def offer_mixes(self, a):
        """Offers the mixes of the weave found last and of others found."""
        nodes = self.found[a][0]
        coming = []
        for mask, lot, more in self.lots:
            coming.append((mask | 1 << a, lot + (a,), nodes + more))
        for mask, lot, more in coming:
            element = self.table[5][mask]
            if self.is_less(element, 1 + more):
                self.offer(element, 1 + more, ("mix", tuple(sorted([self.found[b][1] for b in lot]))))
        self.lots.extend(coming)

    def settle(self, a):
        """What has waited with the least weave of all is found, and offers others."""
        nodes, weave = self.waiting.pop(a)
        self.found[a] = (nodes, weave)
        for b in list(self.found):
            self.offer_pair(a, b)
            self.offer_pair(b, a)
        if "on" in self.ways:
            self.offer(self.table[3][a], 1 + nodes, ("on", weave))
        if "back" in self.ways:
            self.offer(self.table[4][a], 1 + nodes, ("back", weave))
        if "mix" in self.ways:
            self.offer_mixes(a)


def weighed(table, scope, starts, kind):
    """A dict from each element that words of a kind have to its least weave of that kind, lesser weaves first."""
    weighing = Weighing(table, WAYS[kind])
    weighing.offer(0, 1, ("none",))
    for letter, start in zip(letter_row(scope), starts):
        weighing.offer(start, 1, ("letter", letter))
    while len(weighing.waiting) > 0:
        # Nothing that is made later has fewer nodes, or as many.
        told = [(nodes, weave, a) for a, (nodes, weave) in weighing.waiting.items()]
        weighing.settle(min(told)[2])
    return {a: weave for a, (nodes, weave) in weighing.found.items()}


def first_of(found, wanted):
    """The first weave found of a wanted element, None if there is none."""
    for element, weave in found.items():
        if element in wanted:
            return weave
    return None
