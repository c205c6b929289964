"""What until and since see in the word of a weave, part by part."""

from alongall.weaves import parts_of


def is_true(truth, letter, bits):
    """Whether a formula, its looks told by numbers, is true where a letter stands in bits."""
    head = truth[0]
    if head == "mark":
        return truth[1] in letter
    if head == "look":
        return bits >> truth[1] & 1 == 1
    if head == "not":
        return not is_true(truth[1], letter, bits)
    if head == "both":
        return is_true(truth[1], letter, bits) and is_true(truth[2], letter, bits)
    return is_true(truth[1], letter, bits) or is_true(truth[2], letter, bits)


def step(seen, due):
    """Whether a look is due on one side of a piece, if it is due or not on the other side."""
    clear, found = seen
    return found or (clear and due)


def comes_from_first(head, until):
    """Whether a look comes to the pieces, in their order, from the first one."""
    # Copies of back are in order from the end, so that the looks change sides there.
    return (head == "back") == until


def due_beside(head, until, seen, due):
    """For each piece whether the look is due beside it, due telling it for them all together."""
    if head == "mix":
        clear = all(piece[0] for piece in seen)
        found = any(piece[1] for piece in seen)
        return [clear and (found or due)] * len(seen)
    forth = comes_from_first(head, until)
    if not forth and head != "then":
        # The last piece stands for endless many, which are looked through from beyond.
        due = step(seen[-1], due)
    told = []
    for piece in seen if forth else seen[::-1]:
        told.append(due)
        due = step(piece, due)
    return told if forth else told[::-1]


def seen_of_all(head, until, seen):
    """The pair of a word: whether what must hold between holds in it, and whether the goal is found."""
    clear = all(piece[0] for piece in seen)
    if head == "mix":
        return clear, clear and any(piece[1] for piece in seen)
    forth = comes_from_first(head, until)
    found = False
    for piece in seen if forth else seen[::-1]:
        found = step(piece, found)
    if forth and head != "then":
        # Behind any place there are still endless many copies of the last piece.
        found = found and seen[-1][0]
    return clear, found


class Sight:
    """A formula and a weave, and what has been seen so far.

    Looks are the formulas that begin with until or since, inner ones ahead of outer ones. The
    bits of a part tell for each look whether it would hold right beside it: until at a last
    place ahead of what stands behind the part, since at a first place behind what stands ahead.
    """

    def __init__(self, formula, weave):
        self.looks = []
        self.truth = self.numbered(formula)
        self.knots = []
        self.root = self.spread(weave)
        self.seen = {}

    def numbered(self, formula):
        """The formula, its looks told by their numbers."""
        head = formula[0]
        if head == "mark":
            return formula
        told = (head,) + tuple([self.numbered(part) for part in formula[1:]])
        if head not in ("until", "since"):
            return told
        if told not in self.looks:
            self.looks.append(told)
        return ("look", self.looks.index(told))

    def spread(self, weave):
        """The number of the weave among the knots, where its parts come ahead of it."""
        parts = [self.spread(part) for part in parts_of(weave)]
        self.knots.append((weave, parts))
        return len(self.knots) - 1

    def pieces(self, at):
        """The parts of a knot; of on and back as many copies, from its end that there is, as may differ."""
        weave, parts = self.knots[at]
        if weave[0] in ("on", "back"):
            # Each look, inner ones first, can set apart one copy more; all further ones are alike.
            return parts * (len(self.looks) + 1)
        return parts

    def placed_pieces(self, at, bits, many):
        """The pieces of a knot that has these bits, each with its own bits for the first many looks."""
        head = self.knots[at][0][0]
        pieces = self.pieces(at)
        rows = [0] * len(pieces)
        for look in range(many):
            until = self.looks[look][0] == "until"
            seen = [self.seen_in(piece, row, look) for piece, row in zip(pieces, rows)]
            told = due_beside(head, until, seen, bits >> look & 1 == 1)
            rows = [row | 1 << look if due else row for row, due in zip(rows, told)]
        return list(zip(pieces, rows))

    def seen_in(self, at, bits, look):
        """What the look sees in a knot with these bits, of which those of inner looks count."""
        key = (at, bits & ((1 << look) - 1), look)
        if key not in self.seen:
            self.seen[key] = self.looked(at, key[1], look)
        return self.seen[key]

    def looked(self, at, bits, look):
        """What seen_in keeps."""
        weave = self.knots[at][0]
        way, between, goal = self.looks[look]
        if weave[0] == "none":
            return True, False
        if weave[0] == "letter":
            return is_true(between, weave[1], bits), is_true(goal, weave[1], bits)
        pieces = self.placed_pieces(at, bits, look)
        seen = [self.seen_in(piece, row, look) for piece, row in pieces]
        return seen_of_all(weave[0], way == "until", seen)

    def is_true_at(self, spot):
        """Whether the formula is true at the places of a spot."""
        at = self.root
        bits = 0
        for number in spot:
            pieces = self.placed_pieces(at, bits, len(self.looks))
            at, bits = pieces[min(number, len(pieces) - 1)]
        return is_true(self.truth, self.knots[at][0][1], bits)
