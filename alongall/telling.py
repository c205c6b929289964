"""Whether rounds formulas hold, told by views alone.

A standing is a quadruple (depth, faces, letters, seats): the letters of some places picked in a word,
in order, the faces, of a depth, of what is ahead of the first one, between them and behind the last
one, and the pairs of a name and the number of the place that it stands for.
"""

from alongall.roundforms import BINDERS


class Telling:
    """Faces, the formulas in a told formula by their numbers, and what is known of them."""

    def __init__(self, faces, told):
        self.faces = faces
        self.knots = []
        self.root = self.spread(told)
        self.known = {}

    def spread(self, told):
        """The number of a told formula among the knots."""
        head, names, rounds, data = told
        parts = []
        if head in BINDERS:
            parts = [self.spread(data[1])]
        elif head in ("both", "either"):
            parts = [self.spread(part) for part in data]
        self.knots.append((head, names, rounds, data, parts))
        return len(self.knots) - 1

    def trimmed(self, at, standing):
        """The standing with no more in it than the formula of a knot looks at."""
        depth, faces, letters, seats = standing
        _, names, deep, _, _ = self.knots[at]
        seats = [(name, place) for name, place in seats if name in names]
        places = sorted({place for name, place in seats})
        row = [self.faces.lowered(depth, face, deep) for face in faces]
        kept = [row[0]]
        for place, letter in enumerate(letters):
            if place in places:
                kept.append(row[place + 1])
            else:
                between = self.faces.then(deep, self.faces.letter(deep, letter), row[place + 1])
                kept[-1] = self.faces.then(deep, kept[-1], between)
        moved = tuple([(name, places.index(place)) for name, place in seats])
        return deep, tuple(kept), tuple([letters[place] for place in places]), moved

    def holds(self, at, standing):
        """Whether the formula of a knot holds in a standing."""
        standing = self.trimmed(at, standing)
        key = (at, standing)
        if key not in self.known:
            self.known[key] = self.holds_anew(at, standing)
        return self.known[key]

    def holds_anew(self, at, standing):
        """What holds keeps."""
        head, _, _, data, parts = self.knots[at]
        if head == "atom":
            return atom_holds(data[1], standing) == data[0]
        if head == "places":
            # The face of no place is 0.
            return (standing[1][0] != 0) == data
        if head in BINDERS:
            wanted = head == "some"
            rows = [(parts[0], one) for one in self.picks(data[0], standing)]
        else:
            wanted = head == "either"
            rows = [(part, standing) for part in parts]
        for part, one in rows:
            if self.holds(part, one) == wanted:
                return wanted
        return not wanted

    def picks(self, name, standing):
        """The standings with one more place picked, or one picked again, for a name."""
        depth, faces, letters, seats = standing
        found = []
        for place in range(len(letters)):
            found.append((depth, faces, letters, seats + ((name, place),)))
        less = [self.faces.one_less(depth, face) for face in faces]
        for at, face in enumerate(faces):
            moved = [(other, place + 1 if place >= at else place) for other, place in seats]
            for l, c, r in self.faces.triples(depth, face):
                row = tuple(less[:at] + [l, r] + less[at + 1:])
                found.append((depth - 1, row, letters[:at] + (c,) + letters[at:], tuple(moved + [(name, at)])))
        return found


def atom_holds(formula, standing):
    """Whether an atom holds in a standing."""
    _, _, letters, seats = standing
    places = {name: place for name, place in seats}
    place = places[formula[1]]
    if formula[0] == "bears":
        return formula[2] in letters[place]
    if formula[0] == "before":
        return place < places[formula[2]]
    return place == places[formula[2]]
