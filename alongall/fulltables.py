"""The values of all full words of some places formulas, each with a weave of few nodes."""

from alongall.fulling import gathered_with
from alongall.making import mix_with

NONE = ("none",)


def is_right(worth):
    """Whether words of a value are right with nothing due beside them."""
    return all(fits & 1 == 1 for _, fits in worth)


class Gathered:
    """Lots of values, told by what the pairs of their mix hang on."""

    def __init__(self):
        self.known = {}

    def add_to_all(self, worth, nodes):
        """Puts a value to each lot, and to none; tells the lots that are new, or have fewer nodes so."""
        coming = [(worth, nodes, (worth,))]
        for gathered, (more, lot) in self.known.items():
            coming.append((gathered_with(gathered, worth), nodes + more, lot + (worth,)))
        found = []
        for gathered, more, lot in coming:
            if gathered not in self.known or more < self.known[gathered][0]:
                self.known[gathered] = (more, lot)
                found.append((gathered, more, lot))
        return found


class FullTable:
    """Values found in order, fewer nodes first."""

    def __init__(self, full):
        self.full = full
        self.waiting = {}
        self.found = {}
        self.lots = Gathered()

    def offer(self, worth, nodes, form):
        """Keeps the form for a value if it has fewer nodes than all so far."""
        if worth is None or worth in self.found:
            return
        if worth not in self.waiting or nodes < self.waiting[worth][0]:
            self.waiting[worth] = (nodes, form)

    def weave(self, form):
        """The weave of a form, which tells its parts by their values."""
        head = form[0]
        if head in ("none", "letter"):
            return form
        parts = [self.found[worth][1] for worth in form[1]]
        return mix_with(parts) if head == "mix" else (head,) + tuple(parts)

    def settle(self, worth):
        """What has waited with the fewest nodes is found, and offers others."""
        full = self.full
        nodes, form = self.waiting.pop(worth)
        self.found[worth] = (nodes, self.weave(form))
        for other, (more, _) in list(self.found.items()):
            self.offer(full.then(worth, other), 1 + nodes + more, ("then", (worth, other)))
            self.offer(full.then(other, worth), 1 + nodes + more, ("then", (other, worth)))
        self.offer(full.on(worth), 1 + nodes, ("on", (worth,)))
        self.offer(full.back(worth), 1 + nodes, ("back", (worth,)))
        for gathered, more, lot in self.lots.add_to_all(worth, nodes):
            self.offer(full.mix(gathered), 1 + more, ("mix", lot))

    def fill(self):
        """Finds all values."""
        self.offer(self.full.nothing(), 1, NONE)
        for letter, bits in self.full.letters():
            self.offer(self.full.worth(letter, bits), 1, ("letter", letter))
        while len(self.waiting) > 0:
            told = [(nodes, worth) for worth, (nodes, _) in self.waiting.items()]
            self.settle(min(told)[1])
