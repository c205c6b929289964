"""How far a text could be the beginning of the text of a tree: all ways tried side by side, sign by sign."""

from tests.samples import letters_by_hand

SIGNS = "abcdefghijklmnopqrstuvwxyz"
KEPT = (
    "ahead all apart bare both dense down either finite first last next not one same scattered some sub well"
).split()
ONE_NAME = ("one", "bare", "down", "dense", "finite", "well", "scattered")
TWO_NAMES = ("same", "apart", "first", "last", "next")
NAME = ("name", "")
FORMULA = ("formula",)


def formula_rows():
    """The ways to begin a formula: what comes, and how many nodes more there will be."""
    rows = [((NAME, " in ", NAME), 0), ((NAME, " < ", NAME), 0), (("!", FORMULA), 1)]
    rows += [((word + " ", NAME), 0) for word in ONE_NAME]
    rows += [((word + " ", NAME, " ", NAME), 0) for word in TWO_NAMES]
    rows += [((word + " ", NAME, ": ", FORMULA), 1) for word in ("some", "all")]
    return rows + [(("(", FORMULA, ("joint",), FORMULA, ")"), 2)]


def weave_rows(scope, deep):
    """The ways to begin a weave at this depth."""
    part = ("weave", deep + 1)
    rows = [(("none",), 0)] + [(("[" + ",".join(letter) + "]",), 0) for letter in letters_by_hand(scope)]
    rows += [(("(", part, " ", part, ")"), 2), (("on(", part, ")"), 1), (("back(", part, ")"), 1)]
    return rows + [(("mix(", part, ("more", deep + 1)), 1)]


class Ways:
    """All ways in which what is read so far can be the beginning of a text."""

    def __init__(self, start, most, scope=(), deepest=60):
        self.most = most
        self.scope = scope
        self.deepest = deepest
        self.ways = set(self.spread((start,), 1))

    def spread(self, stack, nodes):
        """The ways to begin with what is expected next; a string is on top, or a name."""
        if nodes > self.most:
            return []
        if not stack or isinstance(stack[0], str) or stack[0][0] == "name":
            return [(stack, nodes)]
        top, rest = stack[0], stack[1:]
        if top[0] == "formula":
            rows = formula_rows()
        elif top[0] == "joint":
            rows = [((" & ",), 0), ((" | ",), 0)]
        elif top[0] == "weave":
            rows = weave_rows(self.scope, top[1]) if top[1] <= self.deepest else []
        else:
            rows = [((")",), 0), ((",", ("weave", top[1]), top), 1)]
        found = []
        for row, more in rows:
            # What is too deep can never be told to its end.
            if all(isinstance(part, str) or part[0] != "weave" or part[1] <= self.deepest for part in row):
                found.extend(self.spread(row + rest, nodes + more))
        return found

    def after(self, way, sign):
        """The ways behind one more sign."""
        stack, nodes = way
        if not stack:
            return []
        top, rest = stack[0], stack[1:]
        if isinstance(top, str):
            if top[0] != sign:
                return []
            return self.spread((top[1:],) + rest if len(top) > 1 else rest, nodes)
        found = []
        word = top[1]
        if sign in SIGNS and len(word) < 8:
            found.append(((("name", word + sign),) + rest, nodes))
        if word and word not in KEPT:
            for other in self.spread(rest, nodes):
                found.extend(self.after(other, sign))
        return found

    def read(self, sign):
        """Whether one more sign can stand there."""
        found = set()
        for way in self.ways:
            found.update(self.after(way, sign))
        self.ways = found
        return bool(found)

    def is_whole(self):
        """Whether what is read is a whole text."""
        for stack, _ in self.ways:
            if not stack or (len(stack) == 1 and stack[0][0] == "name" and stack[0][1] and stack[0][1] not in KEPT):
                return True
        return False


def length_read(ways, text):
    """None for a whole text, otherwise how long its longest right beginning is."""
    for at, sign in enumerate(text):
        if not ways.read(sign):
            return at
    return None if ways.is_whole() else len(text)


def formula_length(text):
    """As length_read, for formulas."""
    return length_read(Ways(FORMULA, 60), text)


def weave_length(scope, text):
    """As length_read, for weaves."""
    return length_read(Ways(("weave", 1), 400, scope), text)
