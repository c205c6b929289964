"""Words with a mark at just the places where a places formula holds."""

from alongall.errors import BadName, TooMany
from alongall.making import built
from alongall.placed import need_placed
from alongall.sight import Sight, is_true
from alongall.spots import need_room
from alongall.weaves import MOST_NODES, in_row, need_weave, node_count
from alongall.words import is_name

MOST_NAMES = 2


def need_new_name(scope, name):
    """BadName unless it is a name for which a scope of at most 2 names has room."""
    if not is_name(name) or name in scope or len(scope) > MOST_NAMES:
        raise BadName("no new name, or no room for one")


class Marks:
    """A weave told with marks, part by part."""

    def __init__(self, sight, name):
        self.sight = sight
        self.name = name
        self.known = {}

    def told(self, at, bits):
        """The weave of a knot that has these bits, with the marks."""
        if (at, bits) not in self.known:
            weave = self.told_anew(at, bits)
            # What is too large here makes the whole so.
            if node_count(weave) > MOST_NODES:
                raise TooMany(MOST_NODES)
            self.known[(at, bits)] = weave
        return self.known[(at, bits)]

    def told_anew(self, at, bits):
        """What told keeps."""
        weave = self.sight.knots[at][0]
        head = weave[0]
        if head == "none":
            return weave
        if head == "letter":
            if is_true(self.sight.truth, weave[1], bits):
                return ("letter", tuple(sorted(weave[1] + (self.name,))))
            return weave
        pieces = self.sight.placed_pieces(at, bits, len(self.sight.looks))
        parts = [self.told(piece, row) for piece, row in pieces]
        if head not in ("on", "back"):
            return built(head, parts)
        # The last copy stands for endless many; what is like it ahead of it is among them.
        while len(parts) > 1 and parts[-2] == parts[-1]:
            parts.pop()
        parts[-1] = (head, parts[-1])
        return in_row(parts if head == "on" else parts[::-1])


def marked(scope, formula, weave, name):
    """The weave with the name at just the places at which the formula holds."""
    need_placed(formula)
    need_weave(scope, weave)
    need_new_name(scope, name)
    sight = Sight(formula, weave)
    whole = Marks(sight, name).told(sight.root, 0)
    need_room((whole,))
    return whole
