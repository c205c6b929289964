"""Tables and algebras, and the values that weaves have in them."""

from alongall.errors import BadAlgebra, BadElement, BadStarts, BadTable, BadWeave
from alongall.plain import head_of, is_below, is_number, is_row_below
from alongall.scopes import letter_number, need_scope
from alongall.weaves import is_weave, parts_of

MOST_ELEMENTS = 8


def is_table(thing):
    """Whether any value is a table."""
    if head_of(thing) != "algebra" or len(thing) != 6:
        return False
    _, many, then, on, back, mix = thing
    if not is_number(many) or not 1 <= many <= MOST_ELEMENTS:
        return False
    if not isinstance(then, tuple) or len(then) != many:
        return False
    if not all(is_row_below(row, many, many) for row in then):
        return False
    if not is_row_below(on, many, many) or not is_row_below(back, many, many):
        return False
    return is_row_below(mix, many, 1 << many) and mix[0] == 0


def lot_in(mask):
    """The lot that a sum of 2 ** a, one for each a of it, stands for."""
    return tuple([a for a in range(mask.bit_length()) if mask >> a & 1])


def mask_of(lot):
    """The sum of 2 ** a for each a that stands in a row, however often."""
    mask = 0
    for a in lot:
        mask = mask | 1 << a
    return mask


def keeps_nothing(table):
    """Whether 0 is told to be no place."""
    _, many, then, on, back, mix = table
    if on[0] != 0 or back[0] != 0 or mix[1] != 0:
        return False
    if not all(then[0][a] == a and then[a][0] == a for a in range(many)):
        return False
    return all(mix[mask | 1] == mix[mask] for mask in range(1, 1 << many))


def keeps_groups(table):
    """Whether (a b) c is a (b c)."""
    _, many, then, _, _, _ = table
    for a in range(many):
        for b in range(many):
            if not all(then[then[a][b]][c] == then[a][then[b][c]] for c in range(many)):
                return False
    return True


def keeps_shifts(table):
    """Whether on(a b) is a on(b a), and back(a b) is back(b a) b."""
    _, many, then, on, back, _ = table
    for a in range(many):
        for b in range(many):
            if on[then[a][b]] != then[a][on[then[b][a]]]:
                return False
            if back[then[a][b]] != then[back[then[b][a]]][b]:
                return False
    return True


def keeps_times(table):
    """Whether on and back of a a, a a a and so on are those of a."""
    _, many, then, on, back, _ = table
    for a in range(many):
        power = a
        # Behind as many steps as there are elements powers only come again.
        for _ in range(many):
            power = then[power][a]
            if on[power] != on[a] or back[power] != back[a]:
                return False
    return True


def keeps_dense(table):
    """Whether each mix takes in what stands beside it, or goes on and on."""
    _, many, then, on, back, mix = table
    for mask in range(1, 1 << many):
        m = mix[mask]
        if then[m][m] != m or on[m] != m or back[m] != m:
            return False
        for c in lot_in(mask):
            behind = then[m][c]
            ahead = then[c][m]
            if then[behind][m] != m or on[behind] != m or back[ahead] != m:
                return False
    return True


def beside_mix(then, lot, m):
    """The mask of m and all c m, m d, c m d, c and d of lot."""
    found = 1 << m
    for c in lot:
        ahead = then[c][m]
        found = found | 1 << ahead | 1 << then[m][c]
        for d in lot:
            found = found | 1 << then[ahead][d]
    return found


def keeps_nests(table):
    """Whether mixes of a mix, or of what holds one, with parts of it are this mix."""
    _, many, then, _, _, mix = table
    known = {}
    for mask in range(1, 1 << many):
        m = mix[mask]
        mixed = beside_mix(then, lot_in(mask), m)
        whole = mask | mixed
        if (whole, mixed, m) not in known:
            known[(whole, mixed, m)] = True
            if not all_mixes_are(mix, whole, mixed, m):
                return False
    return True


def all_mixes_are(mix, whole, mixed, m):
    """Whether mix is m for each lot in whole that has an element of mixed."""
    lot = whole
    # This goes through all lots in whole, the greater masks first.
    while lot > 0:
        if lot & mixed and mix[lot] != m:
            return False
        lot = (lot - 1) & whole
    return True


def is_algebra(thing):
    """Whether any value is an algebra."""
    if not is_table(thing) or not keeps_nothing(thing) or not keeps_groups(thing):
        return False
    if not keeps_shifts(thing) or not keeps_times(thing):
        return False
    return keeps_dense(thing) and keeps_nests(thing)


def need_algebra(algebra):
    """BadAlgebra for any value that is no algebra."""
    if not is_algebra(algebra):
        raise BadAlgebra("no algebra")


def need_element(algebra, element):
    """BadElement for any value that is no number of an element."""
    if not is_below(element, algebra[1]):
        raise BadElement("no number of an element")


def worth_of(table, scope, starts, weave):
    """The value of a weave, all being as it should be."""
    _, _, then, on, back, mix = table
    head = weave[0]
    if head == "none":
        return 0
    if head == "letter":
        return starts[letter_number(scope, weave[1])]
    worths = [worth_of(table, scope, starts, part) for part in parts_of(weave)]
    if head == "then":
        return then[worths[0]][worths[1]]
    if head == "on":
        return on[worths[0]]
    if head == "back":
        return back[worths[0]]
    return mix[mask_of(worths)]


def value(table, scope, starts, weave):
    """The value of a weave in a table, letters having their starts."""
    if not is_table(table):
        raise BadTable("no table")
    need_scope(scope)
    if not is_row_below(starts, table[1], 1 << len(scope)):
        raise BadStarts("no element for each letter")
    if not is_weave(scope, weave):
        raise BadWeave("no weave of the scope")
    return worth_of(table, scope, starts, weave)
