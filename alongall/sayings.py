"""Rounds formulas said of words, and sentences that part words."""

from alongall.errors import BadDepth, BadLoose, TooMany
from alongall.faces import Faces
from alongall.facts import Facts, Speaking, new_names
from alongall.narrowing import narrowed
from alongall.roundforms import MOST_NODES, forms_in, loose_in, names_kept_apart, need_rounds, rounds_in
from alongall.spots import need_spot
from alongall.telling import Telling
from alongall.views import MOST_VIEW, need_depth, need_pair, unlike_from
from alongall.weaves import need_weave

MOST_ROUNDS = 6
MOST_TRIES = 8


def telling_of(formula):
    """How a rounds formula is told, and how many rounds it takes, which are no more than it has."""
    _, marks = names_kept_apart(formula)
    told = narrowed(formula, True)
    return Telling(Faces(told[2], marks), told), told[2]


def so(scope, formula, weave):
    """Whether the rounds formula, which has no free names, holds for the word."""
    need_rounds(formula)
    if loose_in(formula) != ():
        raise BadLoose("it has free names")
    need_weave(scope, weave)
    if rounds_in(formula) > MOST_ROUNDS:
        raise BadDepth("too many rounds")
    telling, rounds = telling_of(formula)
    face = telling.faces.of_weave(rounds, weave)
    return telling.holds(telling.root, (rounds, (face,), (), ()))


def so_at(scope, formula, weave, spot):
    """Whether the rounds formula holds with a place of the spot for its one free name."""
    need_rounds(formula)
    free = loose_in(formula)
    if len(free) != 1:
        raise BadLoose("it has not just one free name")
    need_spot(scope, weave, spot)
    if rounds_in(formula) > MOST_ROUNDS - 1:
        raise BadDepth("too many rounds")
    telling, rounds = telling_of(formula)
    ahead, letter, behind = telling.faces.around(rounds, weave, spot)
    return telling.holds(telling.root, (rounds, (ahead, behind), (letter,), ((free[0], 0),)))


def form_count(formula):
    """How many nodes there are in what is built as a rounds formula."""
    return 1 + sum(form_count(part) for part in forms_in(formula))


def sentence_apart(scope, one, other, depth):
    """A rounds formula of at most so many rounds that holds for one, not for other; None if they are alike to it."""
    need_pair(scope, one, other)
    need_depth(depth, MOST_VIEW)
    # Of the least depth, since its views are the smallest ones.
    least = unlike_from(scope, one, other, depth)
    if least is None:
        return None
    faces = Faces(least, scope)
    facts = Facts(faces)
    speaking = Speaking(scope, new_names(scope, least))
    first = faces.of_weave(least, one)
    second = faces.of_weave(least, other)
    for candidate in facts.candidates(least, first, [second])[:MOST_TRIES]:
        told = speaking.fact_told(facts.fact(least, candidate), "", "", 0)
        if form_count(told) <= MOST_NODES:
            return told
    raise TooMany(MOST_NODES)
