"""Walks: what comes of some things by then, on, back and mix, in the order in which it is met.

A thing is a tuple with one element of each of some tables; what is done, is done in each of them.
"""

from alongall.errors import TooMany


def nothing_in(tables):
    """The thing of no place."""
    return (0,) * len(tables)


def then_of_things(tables, one, other):
    """The then of two things."""
    return tuple([table[2][a][b] for table, a, b in zip(tables, one, other)])


def on_of_thing(tables, thing):
    """The on of a thing."""
    return tuple([table[3][a] for table, a in zip(tables, thing)])


def back_of_thing(tables, thing):
    """The back of a thing."""
    return tuple([table[4][a] for table, a in zip(tables, thing)])


def mixes_of_things(tables, things):
    """The mix of each lot of some things, that of none too, by the sums of 2 ** i, i their places."""
    rows = []
    for at, table in enumerate(tables):
        masks = [0]
        for thing in things:
            bit = 1 << thing[at]
            masks = masks + [mask | bit for mask in masks]
        rows.append([table[5][mask] for mask in masks])
    return list(zip(*rows))


def round_from(tables, things):
    """What a round comes to that goes through these things, in order."""
    found = [then_of_things(tables, one, other) for one in things for other in things]
    for thing in things:
        found.append(on_of_thing(tables, thing))
        found.append(back_of_thing(tables, thing))
    found.extend(mixes_of_things(tables, things)[1:])
    return found


def walk(tables, given, most):
    """The things that a walk from the given ones meets, in order; TooMany for more than most."""
    places = {}
    coming = [nothing_in(tables)] + list(given)
    while True:
        known = len(places)
        for thing in coming:
            places.setdefault(thing, len(places))
            if len(places) > most:
                raise TooMany(most)
        if len(places) == known:
            return list(places)
        coming = round_from(tables, list(places))


def places_in(line):
    """For each thing of a row its place, from 0."""
    return {thing: place for place, thing in enumerate(line)}


def table_over(tables, line, numbers):
    """The table whose elements stand for the things in line; numbers tells of all that comes its element."""
    then = [tuple([numbers[then_of_things(tables, one, other)] for other in line]) for one in line]
    on = [numbers[on_of_thing(tables, thing)] for thing in line]
    back = [numbers[back_of_thing(tables, thing)] for thing in line]
    mix = [numbers[thing] for thing in mixes_of_things(tables, line)]
    return ("algebra", len(line), tuple(then), tuple(on), tuple(back), tuple(mix))
