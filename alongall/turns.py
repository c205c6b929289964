"""Turns, single steps of what may stand around a word, and what they keep together."""

from alongall.algebras import lot_in, mask_of


def turned_by(table, turn, element):
    """What a turn makes of an element."""
    _, _, then, on, back, mix = table
    way = turn[0]
    if way == "left":
        return then[turn[1]][element]
    if way == "right":
        return then[element][turn[1]]
    if way == "on":
        return on[element]
    if way == "back":
        return back[element]
    return mix[mask_of(turn[1]) | 1 << element]


def mix_rows(table):
    """What the mix of a lot and each element is, for the lots without 0, by the sums of 2 ** (a - 1)."""
    # 0 beside others changes no mix, so that lots with it tell nothing new.
    mix = table[5][::2]
    columns = [mix]
    for a in range(table[1] - 1):
        bit = 1 << a
        column = []
        for start in range(0, len(mix), 2 * bit):
            row = mix[start + bit:start + 2 * bit]
            column.extend(row + row)
        columns.append(column)
    return list(zip(*columns))


def turn_rows(table):
    """Pairs (row, turn): row what the turn makes of each element; of the turns with one row the first."""
    _, many, then, on, back, _ = table
    found = {}
    for c in range(many):
        found.setdefault(then[c], ("left", c))
    for c, row in enumerate(list(zip(*then))):
        found.setdefault(row, ("right", c))
    found.setdefault(on, ("on",))
    found.setdefault(back, ("back",))
    for number, row in enumerate(mix_rows(table)):
        if row not in found:
            found[row] = ("mix", lot_in(2 * number))
    return list(found.items())


def numbered(signs):
    """For each sign a number, the same one for equal ones, from 0 in the order in which they come first."""
    known = {}
    for sign in signs:
        known.setdefault(sign, len(known))
    return [known[sign] for sign in signs]


def kinds_kept(rows, kinds):
    """Kinds of elements, as few as can be, such that each row of turns keeps them and each lies in one of kinds."""
    kinds = numbered(kinds)
    while True:
        columns = [kinds] + [[kinds[a] for a in row] for row in rows]
        finer = numbered(list(zip(*columns)))
        if finer == kinds:
            return kinds
        kinds = finer


def rows_alone(table):
    """What the turns make of each element, unlike rows once."""
    _, _, then, on, back, _ = table
    rows = {row: True for row in list(then) + list(zip(*then)) + [on, back] + mix_rows(table)}
    return list(rows)


def kinds_by_lot(table, lot):
    """The kinds of kinds_kept for a lot and all that is not in it."""
    return kinds_kept(rows_alone(table), [a in lot for a in range(table[1])])
