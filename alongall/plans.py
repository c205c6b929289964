"""How marked weaves of each value come, with as few nodes as can be seen.

The plan of a weave is a triple: the weave, the plans of its parts, and a dict from each value to a
pair (nodes, recipe). Recipes tell parts by their values, so that none is built that is not asked for:

- ("none",), ("letter", letter), ("then", a, b): the parts have the values a and b;
- ("again", row): on or back of a row of marked parts; ("beside", a, b): a marked part of value a,
  and the whole of value b, behind it for on, ahead of it for back;
- for a mix ("mix", forms), ("then", a, b), ("with", a, c, b), ("on", form), ("back", form): the
  whole of value a, then that of value b, a part of value c between; a form is ("part", k, a), the
  k-th part of value a, ("line", b), the whole of value b, or the whole with parts at its ends:
  ("begins", a, b), ("ends", b, a), ("inside", a, b, c).
"""

from alongall.algebras import lot_in, mask_of
from alongall.mixing import masks_in
from alongall.scopes import letter_number
from alongall.weaves import parts_of


def offer(found, element, nodes, recipe):
    """Keeps the recipe for the element if it has fewer nodes than the one known."""
    if element not in found or nodes < found[element][0]:
        found[element] = (nodes, recipe)


def sum_of(found):
    """What grows smaller as long as recipes with fewer nodes, and larger when new values are found."""
    return len(found), sum(nodes for nodes, recipe in list(found.values()))


def then_best(then, one, other):
    """The recipes of then."""
    found = {}
    for a, (nodes, _) in one.items():
        for b, (more, _) in other.items():
            offer(found, then[a][b], 1 + nodes + more, ("then", a, b))
    return found


def rows_best(then, part):
    """For each product of one or more values of a part the nodes, and the row of these values."""
    found = {a: (nodes, (a,)) for a, (nodes, _) in part.items()}
    while True:
        known = sum_of(found)
        for product, (nodes, row) in list(found.items()):
            for a, (more, _) in part.items():
                offer(found, then[product][a], nodes + 1 + more, row + (a,))
        if sum_of(found) == known:
            return found


def endless_best(then, ends, part, forth):
    """The recipes of on, if forth is True, or of back; ends is the row of on or of back."""
    found = {}
    for product, (nodes, row) in rows_best(then, part).items():
        offer(found, ends[product], 1 + nodes, ("again", row))
    while True:
        known = sum_of(found)
        for b, (nodes, _) in list(found.items()):
            for a, (more, _) in part.items():
                offer(found, then[a][b] if forth else then[b][a], 1 + nodes + more, ("beside", a, b))
        if sum_of(found) == known:
            return found


def cheapest_parts(parts):
    """For each value that some part has the nodes, and a form of the part that has it with the fewest nodes."""
    found = {}
    for k, part in enumerate(parts):
        for a, (nodes, _) in part.items():
            offer(found, a, nodes, ("part", k, a))
    return found


def even_forms(parts, inner, lot):
    """Forms of parts with the values of a lot, each part and each value among them; None if there are none."""
    forms = []
    for k, part in enumerate(parts):
        told = [(part[a][0], a) for a in lot if a in part]
        if len(told) == 0:
            return None
        forms.append(("part", k, min(told)[1]))
    met = [form[2] for form in forms]
    return forms + [inner[a][1] for a in lot if a not in met]


def offer_even(found, mix, parts, inner):
    """Offers the mixes of parts alone."""
    for mask in masks_in(mask_of(list(inner))):
        forms = even_forms(parts, inner, lot_in(mask))
        if forms is not None:
            nodes = sum(parts[k][a][0] for _, k, a in forms)
            offer(found, mix[mask], 1 + nodes, ("mix", tuple(forms)))


def forms_around(then, found, inner):
    """For each value the nodes, and the form with the fewest nodes that holds the whole."""
    forms = {}
    for b, (nodes, _) in found.items():
        offer(forms, b, nodes, ("line", b))
        for a, (more, _) in inner.items():
            offer(forms, then[b][a], 1 + nodes + more, ("ends", b, a))
            offer(forms, then[a][b], 1 + nodes + more, ("begins", a, b))
            for c, (third, _) in inner.items():
                offer(forms, then[then[a][b]][c], 2 + nodes + more + third, ("inside", a, b, c))
    return forms


def offer_nested(found, mix, inner, forms):
    """Offers the mixes of forms one of which at least holds the whole."""
    best = dict(inner)
    extra = {}
    for a, (nodes, form) in forms.items():
        offer(best, a, nodes, form)
        # So many nodes more if the form that holds the whole is taken.
        extra[a] = nodes - best[a][0]
    for mask in masks_in(mask_of(list(best))):
        lot = lot_in(mask)
        held = [(extra[a], a) for a in lot if a in extra]
        if len(held) > 0:
            more, chosen = min(held)
            told = [forms[a][1] if a == chosen else best[a][1] for a in lot]
            nodes = 1 + more + sum([best[a][0] for a in lot])
            offer(found, mix[mask], nodes, ("mix", tuple(told)))


def offer_products(found, then, inner):
    """Offers one whole behind the other, perhaps with a part between."""
    known = list(found.items())
    for a, (nodes, _) in known:
        for b, (more, _) in known:
            offer(found, then[a][b], 1 + nodes + more, ("then", a, b))
            for c, (third, _) in inner.items():
                offer(found, then[then[a][c]][b], 2 + nodes + more + third, ("with", a, c, b))


def offer_endless(found, table, inner):
    """Offers on and back of the whole, perhaps with a part at its end."""
    _, _, then, on, back, _ = table
    for b, (nodes, _) in list(found.items()):
        offer(found, on[b], 1 + nodes, ("on", ("line", b)))
        offer(found, back[b], 1 + nodes, ("back", ("line", b)))
        for a, (more, _) in inner.items():
            offer(found, on[then[b][a]], 2 + nodes + more, ("on", ("ends", b, a)))
            offer(found, back[then[a][b]], 2 + nodes + more, ("back", ("begins", a, b)))


def mix_best(table, parts):
    """The recipes of a mix."""
    found = {}
    inner = cheapest_parts(parts)
    offer_even(found, table[5], parts, inner)
    while True:
        known = sum_of(found)
        offer_nested(found, table[5], inner, forms_around(table[2], found, inner))
        offer_products(found, table[2], inner)
        offer_endless(found, table, inner)
        if sum_of(found) == known:
            return found


def letter_best(scope, starts, name, letter):
    """The recipes of a letter without the name, which may be given it."""
    found = {}
    for told in (letter, tuple(sorted(letter + (name,)))):
        offer(found, starts[letter_number(scope, told)], 1, ("letter", told))
    return found


def plan_of(table, scope, starts, name, weave):
    """The plan of a weave of the scope without the name."""
    plans = [plan_of(table, scope, starts, name, part) for part in parts_of(weave)]
    parts = [plan[2] for plan in plans]
    head = weave[0]
    if head == "none":
        best = {0: (1, ("none",))}
    elif head == "letter":
        best = letter_best(scope, starts, name, weave[1])
    elif head == "then":
        best = then_best(table[2], parts[0], parts[1])
    elif head == "mix":
        best = mix_best(table, parts)
    else:
        best = endless_best(table[2], table[3] if head == "on" else table[4], parts[0], head == "on")
    return weave, plans, best
