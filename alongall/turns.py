"""Turns, single steps of what may stand around a word, and what they keep together."""

from alongall.algebras import lot_in, mask_of


def turned_by(table, turn, element):
    """What a turn makes of an element."""
    _, _, then, on, back, mix = table
    way = turn[0]
    if way == "left":
        return then[turn[1]][element]
    if way == "right":
        return then[element][turn[1]]
    if way == "on":
        return on[element]
    if way == "back":
        return back[element]
    return mix[mask_of(turn[1]) | 1 << element]


def turn_rows(table):
    """Pairs (row, turn): row what the turn makes of each element; of the turns with one row the first."""
    _, many, then, on, back, mix = table
    found = {}
    for c in range(many):
        found.setdefault(then[c], ("left", c))
    for c in range(many):
        found.setdefault(tuple([then[a][c] for a in range(many)]), ("right", c))
    found.setdefault(on, ("on",))
    found.setdefault(back, ("back",))
    for mask in range(1 << many):
        row = tuple([mix[mask | 1 << a] for a in range(many)])
        if row not in found:
            found[row] = ("mix", lot_in(mask))
    return list(found.items())


def numbered(signs):
    """For each sign a number, the same one for equal ones, from 0 in the order in which they come first."""
    known = {}
    for sign in signs:
        known.setdefault(sign, len(known))
    return [known[sign] for sign in signs]


def kinds_kept(table, kinds):
    """Kinds of elements, as few as can be, such that each turn keeps them and each lies in one of kinds."""
    rows = [row for row, turn in turn_rows(table)]
    kinds = numbered(kinds)
    while True:
        finer = numbered([tuple([kinds[a]] + [kinds[row[a]] for row in rows]) for a in range(len(kinds))])
        if finer == kinds:
            return kinds
        kinds = finer


def kinds_by_lot(table, lot):
    """The kinds of kinds_kept for a lot and all that is not in it."""
    return kinds_kept(table, [a in lot for a in range(table[1])])
