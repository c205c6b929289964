"""Views of words told by numbers, their faces: at each depth one number for each view.

A face stands for the triples (l, c, r) of a view, l and r faces of one depth less, c a letter. They
are kept by what is behind: for each r a front, the pairs (l, c) beside it, told by a number too.
Fronts stand in many faces, so that what is done to them is worked out once. What is made of words
has a face that comes of the faces of its parts.
"""

from alongall.spots import part_under
from alongall.weaves import parts_of


class Faces:
    """The faces met so far, and what has been made of them; 0 is that of no place, and the only one of depth 0."""

    def __init__(self, most, names):
        # Marks that are none of these names are not looked at.
        self.names = names
        many = most + 1
        # For each depth and face its pairs (r, front); the face of these pairs; what then of it and others is.
        self.rows = [[()] for _ in range(many)]
        self.numbers = [{(): 0} for _ in range(many)]
        self.thens = [[{}] for _ in range(many)]
        # For each depth and front its pairs (l, c); the front of these pairs; what it is with more ahead.
        self.fronts = [[()] for _ in range(many)]
        self.front_numbers = [{(): 0} for _ in range(many)]
        self.shifts = [[{}] for _ in range(many)]
        self.known = {}

    def front(self, depth, pairs):
        """The front of some pairs, which may come several times, in any order."""
        pairs = tuple(sorted(set(pairs)))
        numbers = self.front_numbers[depth]
        if pairs not in numbers:
            numbers[pairs] = len(numbers)
            self.fronts[depth].append(pairs)
            self.shifts[depth].append({})
        return numbers[pairs]

    def number(self, depth, rows):
        """The face of pairs (r, front); fronts of one r are put together."""
        found = {}
        for r, front in rows:
            found[r] = self.united(depth, found[r], front) if r in found else front
        row = tuple(sorted(found.items()))
        numbers = self.numbers[depth]
        if row not in numbers:
            numbers[row] = len(numbers)
            self.rows[depth].append(row)
            self.thens[depth].append({})
        return numbers[row]

    def united(self, depth, one, other):
        """The front of the pairs of two fronts."""
        if one == other:
            return one
        key = ("united", depth, min(one, other), max(one, other))
        if key not in self.known:
            self.known[key] = self.front(depth, self.fronts[depth][one] + self.fronts[depth][other])
        return self.known[key]

    def shifted(self, depth, ahead, front):
        """The front with more ahead of all of its places."""
        if ahead == 0:
            return front
        known = self.shifts[depth][front]
        if ahead not in known:
            pairs = self.fronts[depth][front]
            known[ahead] = self.front(depth, [(self.then(depth - 1, ahead, l), c) for l, c in pairs])
        return known[ahead]

    def front_less(self, depth, front):
        """The front of one depth less."""
        key = ("front", depth, front)
        if key not in self.known:
            pairs = self.fronts[depth][front]
            self.known[key] = self.front(depth - 1, [(self.one_less(depth - 1, l), c) for l, c in pairs])
        return self.known[key]

    def one_less(self, depth, face):
        """The face of one depth less of the words of a face."""
        if depth < 2 or face == 0:
            return 0
        key = ("less", depth, face)
        if key not in self.known:
            row = self.rows[depth][face]
            less = [(self.one_less(depth - 1, r), self.front_less(depth, front)) for r, front in row]
            self.known[key] = self.number(depth - 1, less)
        return self.known[key]

    def lowered(self, depth, face, deep):
        """The face of a lesser depth."""
        while depth > deep:
            face = self.one_less(depth, face)
            depth = depth - 1
        return face

    def seen_of(self, letter):
        """What is looked at of a letter."""
        return tuple([name for name in letter if name in self.names])

    def letter(self, depth, letter):
        """The face of one place."""
        if depth == 0:
            return 0
        return self.number(depth, [(0, self.front(depth, [(0, self.seen_of(letter))]))])

    def around_row(self, depth, ahead, face, behind):
        """The pairs of a face with more ahead of all places, and behind them."""
        row = self.rows[depth][face]
        return [(self.then(depth - 1, r, behind), self.shifted(depth, ahead, front)) for r, front in row]

    def then(self, depth, one, other):
        """The face of words one behind the other."""
        if one == 0 or depth == 0:
            return other
        if other == 0:
            return one
        known = self.thens[depth][one]
        if other not in known:
            row = self.around_row(depth, 0, one, self.one_less(depth, other))
            row.extend(self.around_row(depth, self.one_less(depth, one), other, 0))
            known[other] = self.number(depth, row)
        return known[other]

    def powers(self, depth, face):
        """The faces of no word of a face, of one, of two .. one behind the other, up to the last new one."""
        row = [0]
        while True:
            power = self.then(depth, row[-1], face)
            if power in row:
                return row
            row.append(power)

    def power(self, depth, face, many):
        """The face of so many words of a face one behind the other."""
        power = 0
        for _ in range(many):
            power = self.then(depth, power, face)
        return power

    def endless(self, head, depth, face):
        """The face of on or back of the words of a face."""
        if depth == 0 or face == 0:
            return 0
        key = (head, depth, face)
        if key not in self.known:
            below = self.one_less(depth, face)
            whole = self.endless(head, depth - 1, below)
            row = []
            for power in self.powers(depth - 1, below):
                if head == "on":
                    row.extend(self.around_row(depth, power, face, whole))
                else:
                    row.extend(self.around_row(depth, whole, face, power))
            self.known[key] = self.number(depth, row)
        return self.known[key]

    def mix(self, depth, faces):
        """The face of a mix of words of some faces."""
        if depth == 0:
            return 0
        faces = tuple(sorted(set(faces)))
        key = ("mix", depth, faces)
        if key not in self.known:
            whole = self.mix(depth - 1, [self.one_less(depth, face) for face in faces])
            row = []
            for face in faces:
                row.extend(self.around_row(depth, whole, face, whole))
            self.known[key] = self.number(depth, row)
        return self.known[key]

    def of_weave(self, depth, weave):
        """The face of the word of a weave."""
        head = weave[0]
        if head == "none":
            return 0
        if head == "letter":
            return self.letter(depth, weave[1])
        faces = [self.of_weave(depth, part) for part in parts_of(weave)]
        if head == "then":
            return self.then(depth, faces[0], faces[1])
        if head == "mix":
            return self.mix(depth, faces)
        return self.endless(head, depth, faces[0])

    def around(self, depth, weave, spot):
        """A triple: the face of what stands ahead of the places of a spot, the letter, the face of what is behind."""
        if len(spot) == 0:
            return 0, self.seen_of(weave[1]), 0
        head = weave[0]
        number = spot[0]
        part = part_under(weave, number)
        ahead, letter, behind = self.around(depth, part, spot[1:])
        more = [0, 0]
        if head == "then":
            more[1 - number] = self.of_weave(depth, parts_of(weave)[1 - number])
        elif head == "mix":
            more = [self.of_weave(depth, weave)] * 2
        else:
            whole = self.of_weave(depth, weave)
            copies = self.power(depth, self.of_weave(depth, part), number)
            more = [copies, whole] if head == "on" else [whole, copies]
        return self.then(depth, more[0], ahead), letter, self.then(depth, behind, more[1])

    def triples(self, depth, face):
        """The triples of a face, in order."""
        key = ("triples", depth, face)
        if key not in self.known:
            found = []
            for r, front in self.rows[depth][face]:
                found.extend([(l, c, r) for l, c in self.fronts[depth][front]])
            self.known[key] = tuple(sorted(found))
        return self.known[key]

    def view(self, depth, face):
        """The view that a face stands for."""
        key = ("view", depth, face)
        if key not in self.known:
            triples = self.triples(depth, face)
            told = [(self.view(depth - 1, l), c, self.view(depth - 1, r)) for l, c, r in triples]
            self.known[key] = tuple(sorted(told))
        return self.known[key]
