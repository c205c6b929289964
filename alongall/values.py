"""Lots of values, of words each place of which may bear any element of a lot."""

from alongall.algebras import need_algebra, need_element
from alongall.errors import BadLot
from alongall.plain import is_lot_below, is_number


def is_lot_of(algebra, thing):
    """Whether any value is a lot of what is an algebra."""
    return is_lot_below(thing, algebra[1]) and len(thing) > 0


def is_lot(algebra, thing):
    """Whether any value is a lot of the algebra."""
    need_algebra(algebra)
    return is_lot_of(algebra, thing)


def need_lot(algebra, lot):
    """BadLot for any value that is no lot."""
    if not is_lot_of(algebra, lot):
        raise BadLot("no lot of the algebra")


def lot_of(row):
    """The ascending tuple of what stands in a row, each once."""
    return tuple(sorted(set(row)))


def then_of(algebra, one, other):
    """The lot of all then of an element of one and an element of other."""
    need_algebra(algebra)
    need_lot(algebra, one)
    need_lot(algebra, other)
    then = algebra[2]
    return lot_of([then[a][b] for a in one for b in other])


def products_of(then, lot):
    """A dict: for each product of one or more elements of lot a row of elements that it is the product of."""
    found = {element: (element,) for element in lot}
    queue = list(lot)
    at = 0
    while at < len(queue):
        for element in lot:
            product = then[queue[at]][element]
            if product not in found:
                found[product] = found[queue[at]] + (element,)
                queue.append(product)
        at = at + 1
    return found


def plus(algebra, lot):
    """The lot of all products of one or more elements of lot."""
    need_algebra(algebra)
    need_lot(algebra, lot)
    return lot_of(list(products_of(algebra[2], lot)))


def on_of(algebra, lot):
    """The lot of the values of words without end, each place of which bears any element of lot."""
    need_algebra(algebra)
    need_lot(algebra, lot)
    _, _, then, on, _, _ = algebra
    found = list(products_of(then, lot))
    return lot_of([then[ahead][on[again]] for ahead in found for again in found])


def back_of(algebra, lot):
    """The lot of the values of words without beginning, each place of which bears any element of lot."""
    need_algebra(algebra)
    need_lot(algebra, lot)
    _, _, then, _, back, _ = algebra
    found = list(products_of(then, lot))
    return lot_of([then[back[again]][behind] for behind in found for again in found])


def on_paper(algebra, lot, element):
    """A pair of rows of elements of lot, one ahead, then one again and again, of this value; None if there is none."""
    need_algebra(algebra)
    need_lot(algebra, lot)
    need_element(algebra, element)
    _, _, then, on, _, _ = algebra
    found = products_of(then, lot)
    for ahead in [0] + list(found):
        for again, row in found.items():
            if then[ahead][on[again]] == element:
                return (found[ahead] if ahead in found else ()), row
    return None


def product_of(then, row):
    """The product of a row of elements, 0 for ()."""
    product = 0
    for element in row:
        product = then[product][element]
    return product


def is_row_of(lot, thing):
    """Whether any value is a tuple of elements of a lot."""
    if not isinstance(thing, tuple):
        return False
    return all(is_number(element) and element in lot for element in thing)


def is_on_paper(algebra, lot, element, thing):
    """Whether any value is such a pair as on_paper tells."""
    need_algebra(algebra)
    need_lot(algebra, lot)
    need_element(algebra, element)
    if not isinstance(thing, tuple) or len(thing) != 2 or not is_row_of(lot, thing[0]) or not is_row_of(lot, thing[1]):
        return False
    _, _, then, on, _, _ = algebra
    ahead, again = thing
    return len(again) > 0 and then[product_of(then, ahead)][on[product_of(then, again)]] == element
