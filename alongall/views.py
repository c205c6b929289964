"""Views of words: what can be seen of all places in some rounds."""

from alongall.errors import BadDepth
from alongall.faces import Faces
from alongall.making import turned_weave
from alongall.plain import is_below
from alongall.weaves import need_weave, parts_of

MOST_VIEW = 3
MOST_ALIKE = 6


def need_depth(depth, most):
    """BadDepth for any value that is no number from 0 to most."""
    if not is_below(depth, most + 1):
        raise BadDepth("no depth that is let through")


def need_pair(scope, one, other):
    """BadScope, BadWeave for one, then for other."""
    need_weave(scope, one)
    need_weave(scope, other)


def view(scope, weave, depth):
    """The view of this depth, from 0 to 3, of the word."""
    need_weave(scope, weave)
    need_depth(depth, MOST_VIEW)
    faces = Faces(depth, scope)
    return faces.view(depth, faces.of_weave(depth, weave))


def head_count(head, weave):
    """How often a head stands in a weave."""
    return (1 if weave[0] == head else 0) + sum(head_count(head, part) for part in parts_of(weave))


def unlike_from(scope, one, other, most):
    """The least depth, at most most, at which two words are not alike; None if there is none."""
    if one == other:
        return None
    # Words that are turned are alike just as far; faces are kept by what is behind, of which on leaves less.
    if head_count("on", one) + head_count("on", other) < head_count("back", one) + head_count("back", other):
        one = turned_weave(one)
        other = turned_weave(other)
    faces = Faces(most, scope)
    # What is unlike at a depth is so at each greater one, where views are much larger.
    for depth in range(most + 1):
        if faces.of_weave(depth, one) != faces.of_weave(depth, other):
            return depth
    return None


def alike_to(scope, one, other, depth):
    """Whether both words have the same view of this depth, from 0 to 6."""
    need_pair(scope, one, other)
    need_depth(depth, MOST_ALIKE)
    return unlike_from(scope, one, other, depth) is None


def least_depth(scope, one, other, most):
    """The least depth, at most most, from 0 to 6, at which the words are not alike; None if there is none."""
    need_pair(scope, one, other)
    need_depth(most, MOST_ALIKE)
    return unlike_from(scope, one, other, most)
