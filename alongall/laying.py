"""Marked weaves laid out by plans, with the roads that lead from them without the mark.

What is laid is a triple (marked, bare, road): a marked weave, the same without the mark, and the
steps that lead from there to the weave that was marked.
"""

from alongall.errors import TooMany
from alongall.making import mix_with, put_in
from alongall.weaves import MOST_NODES, node_count

NONE = ("none",)
MOST_TRIES = 200


def lifted(numbers, road):
    """The steps of a part, as steps of what holds it."""
    return [(numbers + path, part) for path, part in road]


def then_laid(one, other):
    """One laid out behind the other."""
    marked = ("then", one[0], other[0])
    return marked, ("then", one[1], other[1]), lifted((0,), one[2]) + lifted((1,), other[2])


def under(head, inner):
    """On or back of what is laid."""
    return (head, inner[0]), (head, inner[1]), lifted((0,), inner[2])


def row_laid(rows):
    """Some laid out in a row, the last one innermost."""
    whole = rows[-1]
    for one in reversed(rows[:-1]):
        whole = then_laid(one, whole)
    return whole


def ended(laid, weave):
    """What is laid, with one more step, to the weave."""
    return laid[0], laid[1], laid[2] + [((), weave)]


def wrapped_laid(laid, many, target):
    """What is laid and leads to a target, so many times behind a word without places."""
    marked, bare, road = laid
    road = lifted((1,) * many, road)
    for deep in range(many):
        marked = ("then", NONE, marked)
        bare = ("then", NONE, bare)
        road.append(((1,) * (many - 1 - deep), target))
    return marked, bare, road


class Gathering:
    """Parts of a mix, each on its road to its target; those that fall together go on as one."""

    def __init__(self, laid, targets):
        self.now = [one[1] for one in laid]
        self.targets = targets
        self.live = [True] * len(laid)
        self.steps = []
        self.clash = None

    def merge(self, at):
        """Takes out what has fallen together with a part; keeps the later one of two that have unlike targets."""
        for other, weave in enumerate(self.now):
            if other != at and self.live[other] and weave == self.now[at]:
                if self.targets[other] != self.targets[at]:
                    self.clash = max(at, other)
                self.live[other] = False

    def place(self, at):
        """The place of a part among the parts of the mix."""
        parts = [weave for other, weave in enumerate(self.now) if self.live[other]]
        return mix_with(parts)[1].index(self.now[at])

    def go(self, at, road):
        """Takes a part along its road, as long as it is one of its own."""
        self.merge(at)
        for path, part in road:
            self.steps.append(((self.place(at),) + path, part))
            self.now[at] = put_in(self.now[at], path, part)
            self.merge(at)


def gathered_once(laid, targets):
    """The gathering of parts laid out, all of them at their targets, or with a clash."""
    gathering = Gathering(laid, targets)
    # What has fallen together at the beginning is known before any part goes on.
    for at in range(len(laid)):
        if gathering.live[at]:
            gathering.merge(at)
    for at, one in enumerate(laid):
        if gathering.live[at] and gathering.clash is None:
            gathering.go(at, one[2])
    return gathering


def gathered(laid, targets):
    """The mix of parts laid out, each of which leads to its target."""
    # Steps make weaves smaller: what goes on to a larger target meets no smaller one where a part has come to its end.
    order = [at for nodes, at in sorted([(node_count(target), at) for at, target in enumerate(targets)])]
    laid = [laid[at] for at in order]
    targets = [targets[at] for at in order]
    many = [0] * len(laid)
    for _ in range(MOST_TRIES):
        rows = [wrapped_laid(one, many[at], targets[at]) for at, one in enumerate(laid)]
        gathering = gathered_once(rows, targets)
        if gathering.clash is None:
            marked = mix_with([row[0] for row in rows])
            return marked, mix_with([row[1] for row in rows]), gathering.steps
        # Parts that tell one word must not fall together, since no rule takes them apart again.
        many[gathering.clash] = many[gathering.clash] + 1
    raise TooMany(MOST_NODES)


def laid_out(plan, element, deep):
    """The marked weave of a value of the weave of a plan, without the mark, and the road.

    TooMany(400) if it is deeper than that.
    """
    weave, plans, best = plan
    recipe = best[element][1]
    head = weave[0]
    if deep < 1:
        raise TooMany(MOST_NODES)
    if head == "none":
        return weave, weave, []
    if head == "letter":
        return recipe, weave, []
    if head == "then":
        return then_laid(laid_out(plans[0], recipe[1], deep - 1), laid_out(plans[1], recipe[2], deep - 1))
    if head == "mix":
        return mix_laid(plan, recipe, deep - 1)
    if recipe[0] == "again":
        whole = under(head, row_laid([laid_out(plans[0], a, deep - 1) for a in recipe[1]]))
        return ended(whole, weave) if len(recipe[1]) > 1 else whole
    part = laid_out(plans[0], recipe[1], deep - 1)
    whole = laid_out(plan, recipe[2], deep - 1)
    return ended(then_laid(part, whole) if head == "on" else then_laid(whole, part), weave)


def part_laid(plan, element, deep):
    """A pair: the part of a mix with this value that has the fewest nodes, laid out, and where it leads to."""
    plans = plan[1]
    told = [(part[2][element][0], k) for k, part in enumerate(plans) if element in part[2]]
    part = plans[min(told)[1]]
    return laid_out(part, element, deep), part[0]


def form_laid(plan, form, deep):
    """A pair: a form of a mix, laid out, and where it leads to."""
    weave = plan[0]
    head = form[0]
    if head == "part":
        part = plan[1][form[1]]
        return laid_out(part, form[2], deep), part[0]
    if head == "line":
        return laid_out(plan, form[1], deep), weave
    if head == "ends":
        part, last = part_laid(plan, form[2], deep)
        return then_laid(laid_out(plan, form[1], deep), part), ("then", weave, last)
    part, first = part_laid(plan, form[1], deep)
    rest, behind = form_laid(plan, ("line" if head == "begins" else "ends",) + form[2:], deep)
    return then_laid(part, rest), ("then", first, behind)


def mix_laid(plan, recipe, deep):
    """A marked mix, laid out by a recipe, its parts at most so deep."""
    weave = plan[0]
    head = recipe[0]
    if head == "mix":
        forms = [form_laid(plan, form, deep) for form in recipe[1]]
        whole = gathered([laid for laid, target in forms], [target for laid, target in forms])
        return whole if all(form[0] == "part" for form in recipe[1]) else ended(whole, weave)
    if head in ("on", "back"):
        return ended(under(head, form_laid(plan, recipe[1], deep)[0]), weave)
    first = laid_out(plan, recipe[1], deep)
    last = laid_out(plan, recipe[-1], deep)
    if head == "then":
        return ended(then_laid(first, last), weave)
    between = part_laid(plan, recipe[2], deep)[0]
    return ended(then_laid(first, then_laid(between, last)), weave)
