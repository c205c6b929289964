"""Values of words that are mixed evenly of kinds of places, each of which may bear any element of a lot."""

from alongall.algebras import lot_in, mask_of, need_algebra, need_element
from alongall.errors import BadKinds
from alongall.mixing import Mixing, masks_in, meets_all, union_of
from alongall.plain import head_of, is_below
from alongall.values import is_lot_of

MOST_KINDS = 8
MOST_LINES = 200
LINES = {"mix": 2, "then": 3, "with": 4, "on": 3, "back": 3}


def need_kinds(algebra, kinds):
    """BadKinds for any value that is no tuple of 1 to 8 lots."""
    if not isinstance(kinds, tuple) or not 1 <= len(kinds) <= MOST_KINDS:
        raise BadKinds("no tuple of 1 to 8 lots")
    if not all(is_lot_of(algebra, lot) for lot in kinds):
        raise BadKinds("no lots of the algebra")


def masks_of(kinds):
    """The sums that stand for some lots."""
    return [mask_of(lot) for lot in kinds]


def mix_of(algebra, kinds):
    """The lot of the values of words in which each kind stands between any two places."""
    need_algebra(algebra)
    need_kinds(algebra, kinds)
    return lot_in(Mixing(algebra).mix_of(masks_of(kinds)))


def is_closed(algebra, kinds, thing):
    """Whether any value is a lot that is closed."""
    need_algebra(algebra)
    need_kinds(algebra, kinds)
    if not is_lot_of(algebra, thing):
        return False
    masks = masks_of(kinds)
    whole = union_of(masks)
    mixing = Mixing(algebra)
    lot = mask_of(thing)
    return lot | mixing.even_mixes(whole, masks) | mixing.due(whole, lot) == lot


def mix_lines(algebra, kinds, known):
    """Pairs (element, line) for the mixes that may be told behind the elements known."""
    mix = algebra[5]
    whole = union_of(kinds)
    beside = Mixing(algebra).beside(whole, mask_of(list(known)))
    found = []
    for lot in masks_in(whole | beside):
        if lot & beside or meets_all(lot, kinds):
            found.append((mix[lot], ("mix", lot_in(lot))))
    return found


def product_lines(algebra, whole, known):
    """Pairs (element, line) for what comes of the elements known by then."""
    then = algebra[2]
    found = []
    for one, i in known.items():
        for other, j in known.items():
            found.append((then[one][other], ("then", i, j)))
            for a in whole:
                found.append((then[then[one][a]][other], ("with", i, a, j)))
    return found


def endless_lines(algebra, whole, known):
    """Pairs (element, line) for what comes of the elements known by on and back."""
    _, _, then, on, back, _ = algebra
    found = []
    for element, i in known.items():
        found.append((on[element], ("on", (), (("line", i),))))
        found.append((back[element], ("back", (("line", i),), ())))
        for a in whole:
            found.append((on[then[element][a]], ("on", (), (("ends", i, a),))))
            found.append((back[then[a][element]], ("back", (("begins", a, i),), ())))
    return found


def lines_for(algebra, kinds):
    """A pair: for each element that is told the number of its line, and these lines."""
    known = {}
    lines = []
    whole = lot_in(union_of(kinds))
    while True:
        # Rows of pieces are not needed: what is told is closed under then, with elements of kinds between.
        found = mix_lines(algebra, kinds, known) + product_lines(algebra, whole, known)
        found.extend(endless_lines(algebra, whole, known))
        many = len(lines)
        for element, line in found:
            if element not in known:
                known[element] = len(lines)
                lines.append(line)
        if len(lines) == many:
            return known, lines


def mix_paper(algebra, kinds, element):
    """A mix paper whose last line tells the element, None if there is none."""
    need_algebra(algebra)
    need_kinds(algebra, kinds)
    need_element(algebra, element)
    known, lines = lines_for(algebra, masks_of(kinds))
    if element not in known:
        return None
    return tuple(lines[:known[element] + 1])


class Paper:
    """The elements that lines ahead tell; of what is no right line None comes."""

    def __init__(self, algebra, kinds):
        self.algebra = algebra
        self.kinds = kinds
        self.whole = union_of(kinds)
        self.mixing = Mixing(algebra)
        self.ahead = []

    def is_line(self, thing):
        """Whether any value is the number of a line ahead."""
        return is_below(thing, len(self.ahead))

    def is_element(self, thing):
        """Whether any value is an element of the kinds."""
        return is_below(thing, self.algebra[1]) and self.whole >> thing & 1 == 1

    def then(self, one, other):
        """The product of two elements."""
        return self.algebra[2][one][other]

    def mixed(self, lot):
        """What mix of a lot tells."""
        if not is_lot_of(self.algebra, lot):
            return None
        mask = mask_of(lot)
        beside = self.mixing.beside(self.whole, mask_of(self.ahead))
        if mask | self.whole | beside != self.whole | beside:
            return None
        # A lot of elements of kinds alone tells no word yet unless it has some of each kind.
        if mask & beside == 0 and not meets_all(mask, self.kinds):
            return None
        return self.algebra[5][mask]

    def piece(self, way, thing):
        """The element of a piece, of a row for on if way is on."""
        head = head_of(thing)
        if head == "line" and len(thing) == 2 and self.is_line(thing[1]):
            return self.ahead[thing[1]]
        if head != ("ends" if way == "on" else "begins") or len(thing) != 3:
            return None
        _, one, other = thing
        if way == "on" and self.is_line(one) and self.is_element(other):
            return self.then(self.ahead[one], other)
        if way == "back" and self.is_element(one) and self.is_line(other):
            return self.then(one, self.ahead[other])
        return None

    def row(self, way, thing):
        """The product of a row of pieces."""
        if not isinstance(thing, tuple):
            return None
        product = 0
        for part in thing:
            element = self.piece(way, part)
            if element is None:
                return None
            product = self.then(product, element)
        return product

    def endless(self, way, ahead, again):
        """What on or back of pieces tells."""
        some = self.row(way, ahead)
        more = self.row(way, again)
        if some is None or more is None or len(again) == 0:
            return None
        if way == "on":
            return self.then(some, self.algebra[3][more])
        return self.then(self.algebra[4][more], some)

    def element_of(self, thing):
        """The element that any value tells as the next line."""
        head = head_of(thing)
        if head not in LINES or len(thing) != LINES[head]:
            return None
        if head == "mix":
            return self.mixed(thing[1])
        if head == "on":
            return self.endless(head, thing[1], thing[2])
        if head == "back":
            return self.endless(head, thing[2], thing[1])
        if not self.is_line(thing[1]) or not self.is_line(thing[-1]):
            return None
        if head == "then":
            return self.then(self.ahead[thing[1]], self.ahead[thing[2]])
        if not self.is_element(thing[2]):
            return None
        return self.then(self.then(self.ahead[thing[1]], thing[2]), self.ahead[thing[3]])

    def take(self, thing):
        """Whether any value is the next line, which then is one of those ahead."""
        element = self.element_of(thing)
        if element is None:
            return False
        self.ahead.append(element)
        return True


def is_mix_paper(algebra, kinds, element, thing):
    """Whether any value is a mix paper whose last line tells the element."""
    need_algebra(algebra)
    need_kinds(algebra, kinds)
    need_element(algebra, element)
    if not isinstance(thing, tuple) or not 1 <= len(thing) <= MOST_LINES:
        return False
    paper = Paper(algebra, masks_of(kinds))
    for line in thing:
        if not paper.take(line):
            return False
    return paper.ahead[-1] == element
