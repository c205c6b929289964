"""Lots that are come to from some lots, and lots of values of weaves."""

from alongall.algebras import lot_in, mask_of, need_algebra
from alongall.errors import BadGiven, BadStarts, BadWeave, TooMany
from alongall.mixing import Mixing
from alongall.scopes import letter_number, need_scope
from alongall.values import is_lot_of
from alongall.weaves import is_weave, parts_of

MOST_GIVEN = 8
MOST_LOTS = 10


class Lots:
    """Lots, told by sums of 2 ** a, in the order in which they are come to."""

    def __init__(self, algebra, given):
        self.mixing = Mixing(algebra)
        self.lots = []
        # All lots of lots but (0,), by the sums of 2 ** (i - 1), i their numbers: what is in one of them, the family
        # of the lots that have an element of each, and their mix.
        self.wholes = [0]
        self.families = [self.mixing.within((1 << self.mixing.many) - 1)]
        self.mixes_told = [1]
        for lot in [1] + given:
            self.meet(lot)

    def meet(self, lot):
        """One more lot, if it is new; TooMany(10)."""
        if lot not in self.lots:
            self.lots.append(lot)
            if len(self.lots) > MOST_LOTS:
                raise TooMany(MOST_LOTS)

    def mix_with(self, lot):
        """Mixes each lot of lots that has been mixed with one lot more."""
        mixing = self.mixing
        none_of_it = mixing.within(((1 << mixing.many) - 1) & ~lot)
        wholes = [whole | lot for whole in self.wholes]
        families = [family & ~none_of_it for family in self.families]
        known = {}
        for whole, family in zip(wholes, families):
            # Only lots in the whole count.
            key = (whole, family & mixing.within(whole))
            if key not in known:
                known[key] = mixing.closed(whole, mixing.mixes_in(key[1]))
            self.mixes_told.append(known[key])
        self.wholes = self.wholes + wholes
        self.families = self.families + families

    def turn(self):
        """Whether one more turn brings new lots."""
        known = list(self.lots)
        for one in known:
            for other in known:
                self.meet(self.mixing.products(one, other))
        for lot in known:
            self.meet(self.mixing.on_of(lot))
        for lot in known:
            self.meet(self.mixing.back_of(lot))
        while len(self.mixes_told) < 1 << (len(known) - 1):
            old = len(self.mixes_told)
            self.mix_with(known[old.bit_length()])
            for lot in self.mixes_told[old:]:
                self.meet(lot)
        return len(self.lots) > len(known)

    def triple(self):
        """The triple of the lots, the ways and the mixes."""
        lots = self.lots
        numbers = {lot: number for number, lot in enumerate(lots)}
        then = [tuple([numbers[self.mixing.products(one, other)] for other in lots]) for one in lots]
        on = [numbers[self.mixing.on_of(lot)] for lot in lots]
        back = [numbers[self.mixing.back_of(lot)] for lot in lots]
        mixes = []
        for lot in self.mixes_told:
            # The lot (0,) beside others changes nothing: mix(P and 0) is mix(P).
            mixes.extend([numbers[lot]] * 2)
        ways = (tuple(then), tuple(on), tuple(back))
        return tuple([lot_in(lot) for lot in lots]), ways, tuple(mixes)


def lots_from(algebra, given):
    """What lots_of tells, all being as it should be."""
    lots = Lots(algebra, [mask_of(lot) for lot in given])
    while lots.turn():
        pass
    return lots.triple()


def lots_of(algebra, given):
    """A triple: the lots come to from the given ones, then, on and back of them, and the mixes."""
    need_algebra(algebra)
    if not isinstance(given, tuple) or not 1 <= len(given) <= MOST_GIVEN:
        raise BadGiven("no tuple of 1 to 8 lots")
    if not all(is_lot_of(algebra, lot) for lot in given):
        raise BadGiven("no lots of the algebra")
    return lots_from(algebra, given)


def mask_over(mixing, scope, masks, weave):
    """The lot of the values of a weave, told by its sum, those of the letters too."""
    head = weave[0]
    if head == "none":
        return 1
    if head == "letter":
        return masks[letter_number(scope, weave[1])]
    parts = [mask_over(mixing, scope, masks, part) for part in parts_of(weave)]
    if head == "then":
        return mixing.products(parts[0], parts[1])
    if head == "on":
        return mixing.on_of(parts[0])
    if head == "back":
        return mixing.back_of(parts[0])
    # Alike kinds tell no more than one of them.
    return mixing.mix_of(sorted(set(parts)))


def lot_over(algebra, scope, lots, weave):
    """What values_of tells, all being as it should be."""
    return lot_in(mask_over(Mixing(algebra), scope, [mask_of(lot) for lot in lots], weave))


def values_of(algebra, scope, starts, weave):
    """The lot of the values of all words of the weave, each letter bearing any element of its lot."""
    need_algebra(algebra)
    need_scope(scope)
    if not isinstance(starts, tuple) or len(starts) != 1 << len(scope):
        raise BadStarts("no tuple of one lot for each letter")
    if not all(is_lot_of(algebra, lot) for lot in starts):
        raise BadStarts("no lots of the algebra")
    if not is_weave(scope, weave):
        raise BadWeave("no weave of the scope")
    return lot_over(algebra, scope, starts, weave)
