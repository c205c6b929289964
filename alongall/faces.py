"""Views of words told by numbers, their faces: at each depth one number for each view.

A face stands for a row of triples (l, c, r), l and r faces of one depth less, c a letter. What is
made of words has a face that comes of the faces of its parts.
"""

from alongall.spots import part_under
from alongall.weaves import parts_of


class Faces:
    """The faces met so far, and what has been made of them; 0 is that of no place, and the only one of depth 0."""

    def __init__(self, most, names):
        # Marks that are none of these names are not looked at.
        self.names = names
        self.rows = [[()] for _ in range(most + 1)]
        self.numbers = [{(): 0} for _ in range(most + 1)]
        self.known = {}
        # For each depth and face what then of it and others is.
        self.thens = [[{}] for _ in range(most + 1)]

    def number(self, depth, row):
        """The face with these triples, which may stand in it several times, in any order."""
        if depth == 0:
            return 0
        row = tuple(sorted(set(row)))
        numbers = self.numbers[depth]
        if row not in numbers:
            numbers[row] = len(numbers)
            self.rows[depth].append(row)
            self.thens[depth].append({})
        return numbers[row]

    def letter(self, depth, letter):
        """The face of one place."""
        return self.number(depth, [(0, self.seen_of(letter), 0)])

    def seen_of(self, letter):
        """What is looked at of a letter."""
        return tuple([name for name in letter if name in self.names])

    def one_less(self, depth, face):
        """The face of one depth less of the words of a face."""
        if depth < 2 or face == 0:
            return 0
        key = ("less", depth, face)
        if key not in self.known:
            row = self.rows[depth][face]
            less = [(self.one_less(depth - 1, l), c, self.one_less(depth - 1, r)) for l, c, r in row]
            self.known[key] = self.number(depth - 1, less)
        return self.known[key]

    def lowered(self, depth, face, deep):
        """The face of a lesser depth."""
        while depth > deep:
            face = self.one_less(depth, face)
            depth = depth - 1
        return face

    def then(self, depth, one, other):
        """The face of words one behind the other."""
        if one == 0 or depth == 0:
            return other
        if other == 0:
            return one
        known = self.thens[depth][one]
        if other not in known:
            ahead = self.one_less(depth, one)
            behind = self.one_less(depth, other)
            row = self.shifted(depth, 0, self.rows[depth][one], behind)
            row.extend(self.shifted(depth, ahead, self.rows[depth][other], 0))
            known[other] = self.number(depth, row)
        return known[other]

    def shifted(self, depth, ahead, row, behind):
        """Triples of a depth with more ahead of them, and behind them."""
        below = depth - 1
        if ahead != 0:
            known = self.thens[below][ahead]
            row = [(known[l] if l in known else self.then(below, ahead, l), c, r) for l, c, r in row]
        if behind != 0:
            thens = self.thens[below]
            row = [(l, c, thens[r][behind] if behind in thens[r] else self.then(below, r, behind)) for l, c, r in row]
        return list(row)

    def powers(self, depth, face):
        """The faces of no word of a face, of one, of two .. one behind the other, up to the last new one."""
        row = [0]
        while True:
            power = self.then(depth, row[-1], face)
            if power in row:
                return row
            row.append(power)

    def power(self, depth, face, many):
        """The face of so many words of a face one behind the other."""
        power = 0
        for _ in range(many):
            power = self.then(depth, power, face)
        return power

    def endless(self, head, depth, face):
        """The face of on or back of the words of a face."""
        if depth == 0 or face == 0:
            return 0
        key = (head, depth, face)
        if key not in self.known:
            below = self.one_less(depth, face)
            whole = self.endless(head, depth - 1, below)
            row = []
            for power in self.powers(depth - 1, below):
                if head == "on":
                    row.extend(self.shifted(depth, power, self.rows[depth][face], whole))
                else:
                    row.extend(self.shifted(depth, whole, self.rows[depth][face], power))
            self.known[key] = self.number(depth, row)
        return self.known[key]

    def mix(self, depth, faces):
        """The face of a mix of words of some faces."""
        if depth == 0:
            return 0
        faces = tuple(sorted(set(faces)))
        key = ("mix", depth, faces)
        if key not in self.known:
            whole = self.mix(depth - 1, [self.one_less(depth, face) for face in faces])
            row = []
            for face in faces:
                row.extend(self.shifted(depth, whole, self.rows[depth][face], whole))
            self.known[key] = self.number(depth, row)
        return self.known[key]

    def of_weave(self, depth, weave):
        """The face of the word of a weave."""
        head = weave[0]
        if head == "none":
            return 0
        if head == "letter":
            return self.letter(depth, weave[1])
        faces = [self.of_weave(depth, part) for part in parts_of(weave)]
        if head == "then":
            return self.then(depth, faces[0], faces[1])
        if head == "mix":
            return self.mix(depth, faces)
        return self.endless(head, depth, faces[0])

    def around(self, depth, weave, spot):
        """A triple: the face of what stands ahead of the places of a spot, the letter, the face of what is behind."""
        if len(spot) == 0:
            return 0, self.seen_of(weave[1]), 0
        head = weave[0]
        number = spot[0]
        part = part_under(weave, number)
        ahead, letter, behind = self.around(depth, part, spot[1:])
        more = [0, 0]
        if head == "then":
            more[1 - number] = self.of_weave(depth, parts_of(weave)[1 - number])
        elif head == "mix":
            more = [self.of_weave(depth, weave)] * 2
        else:
            whole = self.of_weave(depth, weave)
            copies = self.power(depth, self.of_weave(depth, part), number)
            more = [copies, whole] if head == "on" else [whole, copies]
        return self.then(depth, more[0], ahead), letter, self.then(depth, behind, more[1])

    def view(self, depth, face):
        """The view that a face stands for."""
        key = ("view", depth, face)
        if key not in self.known:
            row = self.rows[depth][face]
            triples = [(self.view(depth - 1, l), c, self.view(depth - 1, r)) for l, c, r in row]
            self.known[key] = tuple(sorted(triples))
        return self.known[key]
