"""Facts that part a word from others, found by faces, and told by rounds formulas.

A fact is a quadruple (holds, letter, left, right): that there is a place, or is none, with this letter,
with the facts of left of all that is ahead of it, and with those of right of all that is behind it.
"""

from alongall.words import LETTERS_OF_NAMES


def split_between(triple, others):
    """A pair: the faces on the left, and those on the right, by which a triple is unlike each of others."""
    l, _, r = triple
    left = [other[0] for other in others if other[2] == r]
    right = [other[2] for other in others if other[0] == l]
    for other in others:
        if other[0] != l and other[2] != r and other[0] not in left and other[2] not in right:
            left.append(other[0])
    return sorted(set(left)), sorted(set(right))


class Facts:
    """Faces, and how one of them is parted from others."""

    def __init__(self, faces):
        self.faces = faces

    def alike_letters(self, depth, faces, letter):
        """The triples with a letter in faces, each once."""
        found = []
        for face in faces:
            found.extend([triple for triple in self.faces.triples(depth, face) if triple[1] == letter])
        return sorted(set(found))

    def candidates(self, depth, one, others):
        """What may be said of a face, not of others, the best first: the triple, and what it must be unlike."""
        found = []
        mine = self.faces.triples(depth, one)
        for triple in mine:
            covered = [other for other in others if triple not in self.faces.triples(depth, other)]
            if len(covered) > 0:
                unlike = self.alike_letters(depth, covered, triple[1])
                found.append((-len(covered), len(unlike), 0, triple, unlike))
        theirs = []
        for other in others:
            theirs.extend([more for more in self.faces.triples(depth, other) if more not in mine])
        for triple in sorted(set(theirs)):
            covered = [other for other in others if triple in self.faces.triples(depth, other)]
            unlike = self.alike_letters(depth, [one], triple[1])
            found.append((-len(covered), len(unlike), 1, triple, unlike))
        return sorted(found)

    def fact(self, depth, candidate):
        """The fact that a candidate stands for."""
        _, _, way, triple, unlike = candidate
        left, right = split_between(triple, unlike)
        l, c, r = triple
        return way == 0, c, self.part(depth - 1, l, left), self.part(depth - 1, r, right)

    def part(self, depth, one, others):
        """Facts that are so of the words of a face, not all of them of the words of any of others."""
        facts = []
        left = others
        while len(left) > 0:
            best = self.candidates(depth, one, left)[0]
            facts.append(self.fact(depth, best))
            has = best[2] == 1
            left = [other for other in left if (best[3] in self.faces.triples(depth, other)) != has]
        return facts


def joined(formulas):
    """That all of some formulas, one at least, are so, not deeply nested."""
    if len(formulas) == 1:
        return formulas[0]
    half = len(formulas) // 2
    return ("both", joined(formulas[:half]), joined(formulas[half:]))


def new_names(scope, many):
    """The first names of one letter that are none of the scope."""
    return [sign for sign in LETTERS_OF_NAMES if sign not in scope][:many]


class Speaking:
    """A scope, and names for places, by which facts are told."""

    def __init__(self, scope, names):
        self.scope = scope
        self.names = names

    def bearing(self, name, letter):
        """That the place of a name bears just this letter."""
        found = []
        for mark in self.scope:
            atom = ("bears", name, mark)
            found.append(atom if mark in letter else ("not", atom))
        return found

    def fact_told(self, fact, ahead, behind, at):
        """A fact of what stands between two names, "" for none, told with names from number at on."""
        holds, letter, left, right = fact
        name = self.names[at]
        parts = self.bearing(name, letter)
        if ahead != "":
            parts.append(("before", ahead, name))
        if behind != "":
            parts.append(("before", name, behind))
        parts.extend([self.fact_told(one, ahead, name, at + 1) for one in left])
        parts.extend([self.fact_told(one, name, behind, at + 1) for one in right])
        # A place that may be any one still needs something to be said of it.
        told = ("some", name, joined(parts if len(parts) > 0 else [("same", name, name)]))
        return told if holds else ("not", told)
