"""Plans of the parter, who parts two words in as many rounds as their views are deep."""

from alongall.faces import Faces
from alongall.plain import head_of, is_below, is_same
from alongall.views import MOST_VIEW, need_depth, need_pair

WAYS = ("left", "right")


def letter_triples(row, letter):
    """The triples of a row that have a letter."""
    return [triple for triple in row if triple[1] == letter]


class Parting:
    """Faces of two words, and the plans known."""

    def __init__(self, scope, one, other, depth):
        self.faces = Faces(depth, scope)
        self.one = self.faces.of_weave(depth, one)
        self.other = self.faces.of_weave(depth, other)
        self.known = {}

    def in_order(self, depth, face):
        """The triples of a face, in the order of those of its view, each beside that of the view."""
        found = []
        for l, c, r in self.faces.triples(depth, face):
            found.append(((self.faces.view(depth - 1, l), c, self.faces.view(depth - 1, r)), (l, c, r)))
        return sorted(found)

    def choices(self, depth, one, other):
        """What the parter may pick for good: how many replies there are, the side, the triple."""
        rows = (self.faces.triples(depth, one), self.faces.triples(depth, other))
        found = []
        for side in range(2):
            for triple in rows[side]:
                if triple not in rows[1 - side]:
                    found.append((len(letter_triples(rows[1 - side], triple[1])), side, triple))
        return found

    def plan(self, depth, one, other):
        """A plan for two unlike faces."""
        if (depth, one, other) not in self.known:
            _, side, triple = min(self.choices(depth, one, other))
            replies = []
            for _, answer in self.in_order(depth, other if side == 0 else one):
                if answer[1] == triple[1]:
                    replies.append(self.reply(depth - 1, (triple, answer) if side == 0 else (answer, triple)))
            l, c, r = triple
            told = (self.faces.view(depth - 1, l), c, self.faces.view(depth - 1, r))
            self.known[(depth, one, other)] = (side, told, tuple(replies))
        return self.known[(depth, one, other)]

    def reply(self, depth, triples):
        """The pair of a way on which a triple of one and a triple of other are unlike, and a plan for it."""
        first, second = triples
        if first[0] != second[0]:
            return "left", self.plan(depth, first[0], second[0])
        return "right", self.plan(depth, first[2], second[2])

    def face_of_triple(self, depth, face, thing):
        """The triple of a face that any value is in its view, None if it is none."""
        for told, triple in self.in_order(depth, face):
            if is_same(told, thing):
                return triple
        return None

    def is_plan(self, depth, one, other, thing):
        """Whether any value is a plan for two faces of a depth."""
        if one == other or not isinstance(thing, tuple) or len(thing) != 3 or not is_below(thing[0], 2):
            return False
        side, told, replies = thing
        triple = self.face_of_triple(depth, one if side == 0 else other, told)
        if triple is None or not isinstance(replies, tuple):
            return False
        answers = [answer for _, answer in self.in_order(depth, other if side == 0 else one) if answer[1] == triple[1]]
        if len(replies) != len(answers):
            return False
        for answer, reply in zip(answers, replies):
            if not self.is_reply(depth - 1, (triple, answer) if side == 0 else (answer, triple), reply):
                return False
        return True

    def is_reply(self, depth, triples, thing):
        """Whether any value is a pair of a way and a plan for what two triples have there."""
        if head_of(thing) not in WAYS or len(thing) != 2:
            return False
        at = 0 if thing[0] == "left" else 2
        return self.is_plan(depth, triples[0][at], triples[1][at], thing[1])


def parter(scope, one, other, depth):
    """A plan for the views of this depth, from 0 to 3, None if they are alike."""
    need_pair(scope, one, other)
    need_depth(depth, MOST_VIEW)
    parting = Parting(scope, one, other, depth)
    if parting.one == parting.other:
        return None
    return parting.plan(depth, parting.one, parting.other)


def is_parter(scope, one, other, depth, thing):
    """Whether any value is a plan for the views of this depth."""
    need_pair(scope, one, other)
    need_depth(depth, MOST_VIEW)
    parting = Parting(scope, one, other, depth)
    return parting.is_plan(depth, parting.one, parting.other, thing)
