"""Ways over from one algebra to another one, and what shows that there is none."""

from alongall.algebras import lot_in, mask_of, need_algebra, worth_of
from alongall.building import is_given, is_pair_of
from alongall.errors import BadGiven
from alongall.flaws import SEATS, seats_of, speaks_of
from alongall.making import mix_with
from alongall.plain import is_row_below
from alongall.walks import numbers_met
from alongall.weaves import is_weave

NONE = ("none",)


def is_way(one, other, thing):
    """Whether any value is a way from one to other."""
    need_algebra(one)
    need_algebra(other)
    if not is_row_below(thing, other[1], one[1]) or thing[0] != 0:
        return False
    _, many, then, on, back, mix = one
    for a in range(many):
        if thing[on[a]] != other[3][thing[a]] or thing[back[a]] != other[4][thing[a]]:
            return False
        if not all(thing[then[a][b]] == other[2][thing[a]][thing[b]] for b in range(many)):
            return False
    told = [other[5][mask_of([thing[a] for a in lot_in(mask)])] for mask in range(1 << many)]
    return all(thing[mix[mask]] == told[mask] for mask in range(1 << many))


def need_makers(one, other, given):
    """BadAlgebra for one, for other, then BadGiven for what does not tell makers of one, and elements of other."""
    need_algebra(one)
    need_algebra(other)
    if not is_given(given) or not all(is_pair_of(one, other, pair) for pair in given):
        raise BadGiven("no tuple of at most 8 pairs")
    if len(numbers_met(one, [a for a, b in given])) < one[1]:
        raise BadGiven("not all is met")


class Going:
    """What is told of the elements of one so far: an element of other, and a weave of the seats."""

    def __init__(self, one, other):
        self.one = one
        self.other = other
        self.images = {}
        self.clash = None

    def meet(self, a, b, weave):
        """Tells b of a; where something else is told already, the two weaves are a clash."""
        known = self.images.setdefault(a, (b, weave))
        if known[0] != b and self.clash is None:
            self.clash = (known[1], weave)

    def go_round(self):
        """Meets all that comes of what is told so far."""
        _, _, then, on, back, mix = self.one
        _, _, then_too, on_too, back_too, mix_too = self.other
        known = [(a, image[0], image[1]) for a, image in self.images.items()]
        for a, b, weave in known:
            for c, d, more in known:
                self.meet(then[a][c], then_too[b][d], ("then", weave, more))
            self.meet(on[a], on_too[b], ("on", weave))
            self.meet(back[a], back_too[b], ("back", weave))
        for mask in range(1, 1 << len(known)):
            lot = [known[at] for at in lot_in(mask)]
            element = mix[mask_of([told[0] for told in lot])]
            image = mix_too[mask_of([told[1] for told in lot])]
            self.meet(element, image, mix_with([told[2] for told in lot]))

    def go(self, given):
        """Goes on till nothing new is met, or there is a clash."""
        self.meet(0, 0, NONE)
        for seat, (a, b) in zip(seats_of(len(given)), given):
            self.meet(a, b, seat)
        many = 0
        # Each round goes through all that is told, so that the last one has met all of it.
        while many < len(self.images) and self.clash is None:
            many = len(self.images)
            self.go_round()


def gone_over(one, other, given):
    """The way gone from the given pairs, all errors being looked at."""
    need_makers(one, other, given)
    going = Going(one, other)
    going.go(given)
    return going


def way_of(one, other, given):
    """The way that tells the second of each given pair for the first, None if there is none."""
    going = gone_over(one, other, given)
    if going.clash is not None:
        return None
    return tuple([going.images[a][0] for a in range(one[1])])


def clash(one, other, given):
    """None if there is such a way, otherwise two weaves that have one value in one, but unlike ones in other."""
    return gone_over(one, other, given).clash


def is_clash(one, other, given, thing):
    """Whether any value is such a pair of weaves."""
    need_makers(one, other, given)
    if not isinstance(thing, tuple) or len(thing) != 2:
        return False
    if not all(is_weave(SEATS, weave) and speaks_of(weave, len(given)) for weave in thing):
        return False
    seats = list(given) + [(0, 0)] * ((1 << len(SEATS)) - len(given))
    first, second = [worth_of(one, SEATS, [a for a, b in seats], weave) for weave in thing]
    third, fourth = [worth_of(other, SEATS, [b for a, b in seats], weave) for weave in thing]
    return first == second and third != fourth
