"""Flaws of tables: rules whose two weaves have unlike values."""

from alongall.algebras import is_algebra, is_table, lot_in, worth_of
from alongall.errors import BadTable
from alongall.making import mix_with
from alongall.mixing import masks_in
from alongall.scopes import letter_row
from alongall.steps import NONE, are_rule
from alongall.weaves import in_row, is_weave, letters_below

SEATS = ("x", "y", "z")


def starts_for(many):
    """The starts of the seats of a table with so many elements."""
    return tuple([i if i < many else 0 for i in range(1 << len(SEATS))])


def seats_of(many):
    """The weaves of the first seats, so many."""
    return [("letter", letter) for letter in letter_row(SEATS)[:many]]


def speaks_of(weave, many):
    """Whether all letters of a weave are among the first seats, so many."""
    seats = letter_row(SEATS)[:many]
    return all(letter in seats for letter in letters_below(weave))


def parts_by(seats, mask):
    """The seats that a sum of 2 ** i stands for."""
    return [seats[i] for i in lot_in(mask)]


def nothing_pairs(seats):
    """Rules that say what no place is."""
    found = [((head, NONE), NONE) for head in ("on", "back")]
    found.append((("mix", (NONE,)), NONE))
    for seat in seats:
        found.append((("then", NONE, seat), seat))
        found.append((("then", seat, NONE), seat))
    for mask in range(1, 1 << len(seats)):
        parts = parts_by(seats, mask)
        found.append((mix_with(parts + [NONE]), mix_with(parts)))
    return found


def group_pairs(seats):
    """Rules of "group"."""
    pairs = [(one, other) for one in seats for other in seats]
    return [(("then", ("then", a, b), c), ("then", a, ("then", b, c))) for a, b in pairs for c in seats]


def shift_pairs(seats):
    """Rules of "shift"."""
    found = []
    for a in seats:
        for b in seats:
            found.append((("on", ("then", a, b)), ("then", a, ("on", ("then", b, a)))))
            found.append((("back", ("then", a, b)), ("then", ("back", ("then", b, a)), b)))
    return found


def times_pairs(seats):
    """Rules of "times", with as many times as there are powers of elements at most."""
    found = []
    for seat in seats:
        for many in range(2, len(seats) + 2):
            row = in_row([seat] * many)
            found.append((("on", seat), ("on", row)))
            found.append((("back", seat), ("back", row)))
    return found


def dense_pairs(seats):
    """Rules of "dense"."""
    found = []
    for mask in range(1, 1 << len(seats)):
        parts = parts_by(seats, mask)
        m = mix_with(parts)
        found.extend([(m, ("then", m, m)), (m, ("on", m)), (m, ("back", m))])
        for part in parts:
            found.append((m, ("then", m, ("then", part, m))))
            found.append((m, ("on", ("then", m, part))))
            found.append((m, ("back", ("then", part, m))))
    return found


def forms_of(table, seats, mask):
    """For each value of a mix, perhaps with a part ahead of it, one behind it, such a weave."""
    starts = starts_for(table[1])
    parts = parts_by(seats, mask)
    m = mix_with(parts)
    weaves = [m]
    for part in parts:
        weaves.append(("then", part, m))
        weaves.append(("then", m, part))
        weaves.extend([("then", part, ("then", m, last)) for last in parts])
    forms = {}
    for weave in weaves:
        forms.setdefault(worth_of(table, SEATS, starts, weave), weave)
    return forms


def nest_flaw(table, seats):
    """A flaw of "nest" in a table that has none of "group", None if there is none."""
    mix = table[5]
    for mask in range(1, 1 << len(seats)):
        forms = forms_of(table, seats, mask)
        mixed = sum(1 << a for a in list(forms))
        for lot in masks_in(mask | mixed):
            if lot & mixed and mix[lot] != mix[mask]:
                parts = [forms[a] if a in forms else seats[a] for a in lot_in(lot)]
                return mix_with(parts_by(seats, mask)), mix_with(parts)
    return None


def has_unlike_values(table, one, other):
    """Whether two weaves of the seats have unlike values."""
    starts = starts_for(table[1])
    return worth_of(table, SEATS, starts, one) != worth_of(table, SEATS, starts, other)


def need_table(table):
    """BadTable for any value that is no table."""
    if not is_table(table):
        raise BadTable("no table")


def flaw(table):
    """A pair of weaves that are a rule and have unlike values, None if there is none."""
    need_table(table)
    if is_algebra(table):
        return None
    seats = seats_of(table[1])
    pairs = nothing_pairs(seats) + group_pairs(seats) + shift_pairs(seats) + times_pairs(seats) + dense_pairs(seats)
    for one, other in pairs:
        if has_unlike_values(table, one, other):
            return one, other
    return nest_flaw(table, seats)


def is_flaw(table, thing):
    """Whether any value is a pair of weaves that are a rule and have unlike values."""
    need_table(table)
    if not isinstance(thing, tuple) or len(thing) != 2:
        return False
    one, other = thing
    if not is_weave(SEATS, one) or not is_weave(SEATS, other):
        return False
    if not speaks_of(one, table[1]) or not speaks_of(other, table[1]):
        return False
    return are_rule(one, other) and has_unlike_values(table, one, other)
