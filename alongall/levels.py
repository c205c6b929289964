"""Levels of words: how often rows without end, and mixes, stand within one another."""

from alongall.algebras import lot_in, mask_of
from alongall.mixing import Mixing, masks_in
from alongall.readers import need_reader
from alongall.weaves import need_weave, parts_of, place_count


def closed_lot(mixing, lot, ways):
    """The least lot, by its sum, that has a lot in it and is closed under then and some ways."""
    while True:
        more = lot | mixing.products(lot, lot)
        for way in ways:
            more = more | mixing.rows_of(mixing.algebra[way], lot)
        if more == lot:
            return lot
        lot = more


def next_row(mixing, lot):
    """The lot of the next level of rows."""
    return closed_lot(mixing, lot | mixing.ons(lot) | mixing.backs(lot), ())


def next_mix(mixing, lot):
    """The lot of the next level of mixes."""
    found = mask_of([mixing.algebra[5][mask] for mask in masks_in(lot)])
    return closed_lot(mixing, lot | found, (3, 4))


def levels(reader):
    """A pair: the lots of values of words by their levels, those without mixes, those with them."""
    need_reader(reader)
    _, _, algebra, starts, _ = reader
    mixing = Mixing(algebra)
    rows = [closed_lot(mixing, 1 | mask_of(starts), ())]
    while next_row(mixing, rows[-1]) != rows[-1]:
        rows.append(next_row(mixing, rows[-1]))
    mixes = [rows[-1]]
    while next_mix(mixing, mixes[-1]) != mixes[-1]:
        mixes.append(next_mix(mixing, mixes[-1]))
    return tuple([lot_in(lot) for lot in rows]), tuple([lot_in(lot) for lot in mixes])


def most_within(weave, heads):
    """The most nodes with one of some heads within one another, parts without places left out."""
    if place_count(weave) == 0:
        return 0
    within = max([most_within(part, heads) for part in parts_of(weave)], default=0)
    return within + (1 if weave[0] in heads else 0)


def level(scope, weave):
    """A pair: the least level of the word if it has no mixes, otherwise 0, and the most mixes within one another."""
    need_weave(scope, weave)
    mixes = most_within(weave, ("mix",))
    if mixes > 0:
        return 0, mixes
    # A row of places of one level, again and again, is of no lower level than the next one.
    return most_within(weave, ("on", "back")), 0
