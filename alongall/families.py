"""Families of algebras: how many places, which marks, what comes first, what kind of order."""

from alongall.algebras import lot_in
from alongall.errors import BadNumber
from alongall.mixing import union_of
from alongall.plain import is_number


def need_number(thing, most):
    """BadNumber for any value that is no number from 1 to most."""
    if not is_number(thing) or not 1 <= thing <= most:
        raise BadNumber("no number that is let through")


def table_of(then, on, back, mix):
    """The table with these rows."""
    return ("algebra", len(then), tuple([tuple(row) for row in then]), tuple(on), tuple(back), tuple(mix))


def mix_to(many, element):
    """The mix of each lot of so many elements, if it is one element unless the lot has nothing but 0."""
    return [0, 0] + [element] * ((1 << many) - 2)


def tallying(most):
    """The algebra of the sum of the starts of all places, up to most."""
    need_number(most, 7)
    many = most + 1
    then = [[min(a + b, most) for b in range(many)] for a in range(many)]
    ends = [0] + [most] * most
    return table_of(then, ends, ends, mix_to(many, most))


def bearing(many):
    """The algebra of which of some marks are borne anywhere."""
    need_number(many, 3)
    all_marks = 1 << many
    then = [[a | b for b in range(all_marks)] for a in range(all_marks)]
    mix = [union_of(lot_in(mask)) for mask in range(1 << all_marks)]
    return table_of(then, list(range(all_marks)), list(range(all_marks)), mix)


def leading(many):
    """The algebra of the start of the first place, 1 if none is first."""
    need_number(many, 6)
    whole = many + 2
    then = [[b if a == 0 else a for b in range(whole)] for a in range(whole)]
    return table_of(then, list(range(whole)), [0] + [1] * (whole - 1), mix_to(whole, 1))


def ordering():
    """The algebra of no place, well ordered places, scattered ones, others."""
    then = [[max(a, b) for b in range(4)] for a in range(4)]
    return table_of(then, [0, 1, 2, 3], [0, 2, 2, 3], mix_to(4, 3))
