"""Weaves with a mark at just the places where a formula holds."""

from alongall.algebras import worth_of
from alongall.compiling import reader_below
from alongall.deciding import need_names, with_names
from alongall.errors import BadName, TooMany
from alongall.formulas import need_measured
from alongall.hiding import is_one_of
from alongall.making import mix_with
from alongall.markings import scope_without
from alongall.scopes import letter_number, letter_row
from alongall.weaves import MOST_DEEP, MOST_NODES, depth_of, in_row, need_weave, node_count


def need_nodes(weave):
    """The weave; TooMany(400) if it has more nodes."""
    # A part that is too large makes the whole so, whatever else it has.
    if node_count(weave) > MOST_NODES:
        raise TooMany(MOST_NODES)
    return weave


def row_until(first, following):
    """A pair: first and what follows, up to the last new one, and the place of the one that would come again."""
    row = [first]
    while following[row[-1]] not in row:
        row.append(following[row[-1]])
    return row, row.index(following[row[-1]])


class Placing:
    """A reader, a name of its scope, and what is told with them."""

    def __init__(self, reader, name):
        _, self.scope, self.algebra, self.starts, self.taken = reader
        self.name = name
        self.rest = scope_without(self.scope, name)
        self.bare = [self.starts[letter_number(self.scope, letter)] for letter in letter_row(self.rest)]

    def then(self, one, other):
        """The product of two elements."""
        return self.algebra[2][one][other]

    def worth(self, weave):
        """The value of a weave without the name."""
        return worth_of(self.algebra, self.rest, self.bare, weave)

    def told_letter(self, weave, ahead, behind):
        """A letter, with the name if it is to bear it."""
        marked = tuple(sorted(weave[1] + (self.name,)))
        start = self.starts[letter_number(self.scope, marked)]
        if self.then(self.then(ahead, start), behind) in self.taken:
            return ("letter", marked)
        return weave

    def told_on(self, weave, ahead, behind):
        """on of a weave, its copies told one by one as long as they may differ."""
        worth = self.worth(weave[1])
        behind = self.then(self.worth(weave), behind)
        row, again = row_until(ahead, [self.then(a, worth) for a in range(self.algebra[1])])
        parts = [self.told(weave[1], a, behind) for a in row]
        return in_row(parts[:again] + [("on", in_row(parts[again:]))])

    def told_back(self, weave, ahead, behind):
        """back of a weave, likewise."""
        worth = self.worth(weave[1])
        ahead = self.then(ahead, self.worth(weave))
        row, again = row_until(behind, self.algebra[2][worth])
        parts = [self.told(weave[1], ahead, b) for b in row]
        return in_row([("back", in_row(parts[again:][::-1]))] + parts[:again][::-1])

    def told(self, weave, ahead, behind):
        """A weave with the name at the places where it is to be, with these values of what stands around it."""
        head = weave[0]
        if head == "none":
            return weave
        if head == "letter":
            return self.told_letter(weave, ahead, behind)
        if head == "on":
            return need_nodes(self.told_on(weave, ahead, behind))
        if head == "back":
            return need_nodes(self.told_back(weave, ahead, behind))
        if head == "then":
            _, one, other = weave
            first = self.told(one, ahead, self.then(self.worth(other), behind))
            return need_nodes(("then", first, self.told(other, self.then(ahead, self.worth(one)), behind)))
        worth = self.worth(weave)
        before = self.then(ahead, worth)
        after = self.then(worth, behind)
        return need_nodes(mix_with([self.told(part, before, after) for part in weave[1]]))


def where(formula, name, scope, weave):
    """The weave with the name at just those places p for which the formula holds if its set is just p."""
    _, free = need_measured(formula)
    if not is_one_of(free, name):
        raise BadName("not free in the formula")
    need_weave(scope, weave)
    others = scope_without(free, name)
    need_names(others, scope)
    placing = Placing(reader_below(formula), name)
    whole = placing.told(with_names(weave, scope, others), 0, 0)
    if depth_of(whole) > MOST_DEEP:
        raise TooMany(MOST_DEEP)
    return whole
