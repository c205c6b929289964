"""The document's words done step by step, slowly, to compare with."""

from itertools import product

from tests.samples import parts_by_hand, spot_turned, turned_by_hand

COPIES = 8


def lots_of_numbers(numbers):
    """All lots of some numbers, () too."""
    numbers = sorted(set(numbers))
    return [tuple(a for at, a in enumerate(numbers) if mask >> at & 1) for mask in range(1 << len(numbers))]


def rows_broken(table):
    """Which of the six rows of an algebra a table does not keep."""
    _, many, then, on, back, mix = table
    all_numbers = range(many)

    def mixed(lot):
        return mix[sum(1 << a for a in set(lot))]

    lots = [lot for lot in lots_of_numbers(all_numbers) if lot]
    broken = set()
    if any(then[0][a] != a or then[a][0] != a for a in all_numbers) or on[0] or back[0] or mixed((0,)):
        broken.add(0)
    if any(mixed(lot + (0,)) != mixed(lot) for lot in lots):
        broken.add(0)
    if any(then[then[a][b]][c] != then[a][then[b][c]] for a, b, c in product(all_numbers, repeat=3)):
        broken.add(1)
    for a, b in product(all_numbers, repeat=2):
        if on[then[a][b]] != then[a][on[then[b][a]]] or back[then[a][b]] != then[back[then[b][a]]][b]:
            broken.add(2)
    for a in all_numbers:
        power = a
        for _ in range(2 * many):
            power = then[power][a]
            if on[power] != on[a] or back[power] != back[a]:
                broken.add(3)
    for lot in lots:
        m = mixed(lot)
        for c in lot:
            told = (then[m][m], then[then[m][c]][m], on[m], on[then[m][c]], back[m], back[then[c][m]])
            if told != (m,) * 6:
                broken.add(4)
        mixes = {m} | {then[c][m] for c in lot} | {then[m][d] for d in lot}
        mixes = mixes | {then[then[c][m]][d] for c, d in product(lot, repeat=2)}
        for other in lots_of_numbers(set(lot) | mixes):
            if set(other) & mixes and mixed(other) != m:
                broken.add(5)
    return broken


def row_holds(formula, row, at):
    """Whether a places formula holds at a place of a row of letters, by the words of the document."""
    head = formula[0]
    if head == "mark":
        return formula[1] in row[at]
    if head == "not":
        return not row_holds(formula[1], row, at)
    if head == "both":
        return row_holds(formula[1], row, at) and row_holds(formula[2], row, at)
    if head == "either":
        return row_holds(formula[1], row, at) or row_holds(formula[2], row, at)
    for other in range(at + 1, len(row)) if head == "until" else range(at):
        between = range(min(at, other) + 1, max(at, other))
        if row_holds(formula[2], row, other) and all(row_holds(formula[1], row, third) for third in between):
            return True
    return False


def round_holds(formula, row, places):
    """Whether a rounds formula holds of a row of letters, the places told by names."""
    head = formula[0]
    if head == "bears":
        return formula[2] in row[places[formula[1]]]
    if head == "before":
        return places[formula[1]] < places[formula[2]]
    if head == "same":
        return places[formula[1]] == places[formula[2]]
    if head == "not":
        return not round_holds(formula[1], row, places)
    if head == "both":
        return round_holds(formula[1], row, places) and round_holds(formula[2], row, places)
    if head == "either":
        return round_holds(formula[1], row, places) or round_holds(formula[2], row, places)
    asked = any if head == "some" else all
    return asked(round_holds(formula[2], row, {**places, formula[1]: at}) for at in range(len(row)))


class Places:
    """The places of a weave, copies from number COPIES on being told by this one number."""

    def __init__(self, weave):
        self.weave = weave
        self.known = {}
        self.other = None

    def inside(self, weave, path):
        """All spots of a weave, behind a path."""
        if weave[0] == "letter":
            return [path]
        found = []
        if weave[0] in ("on", "back"):
            for number in range(COPIES + 1):
                found.extend(self.inside(weave[1], path + (number,)))
            return found
        for number, part in enumerate(parts_by_hand(weave)):
            found.extend(self.inside(part, path + (number,)))
        return found

    def stretches(self, weave, path, spot):
        """Rows of later spots: each a pair (again, spots): places one behind the other, or in any way mixed."""
        if spot == ():
            return []
        number, rest = spot[0], spot[1:]
        if weave[0] in ("on", "back"):
            part = weave[1]
        else:
            part = parts_by_hand(weave)[number]
        rows = self.stretches(part, path + (number,), rest)
        if weave[0] == "then":
            return rows + ([("then", weave[2], path + (1,))] if number == 0 else [])
        if weave[0] == "on":
            copies = [("then", part, path + (k,)) for k in range(number + 1, COPIES)]
            return rows + copies + [("tail", part, path + (COPIES,))]
        if weave[0] == "back":
            head = [("then", part, path + (k,)) for k in range(number - 1, -1, -1)]
            return rows + head
        return rows + [("mix", weave, path)]

    def reached(self, way, goal, rows):
        """A pair: whether a goal is reached through way in rows of pieces, and whether way holds in all of them."""
        clear = True
        for kind, weave, path in rows:
            found, through = self.through(kind, weave, path, way, goal)
            if clear and found:
                return True, False
            clear = clear and through
        return False, clear

    def through(self, kind, weave, path, way, goal):
        """The pair of reached, of one piece, seen from its beginning."""
        if kind == "mix" or weave[0] == "mix":
            spots = self.inside(weave, path)
            clear = all(way(spot) for spot in spots)
            return clear and any(goal(spot) for spot in spots), clear
        if kind == "tail":
            # The same copy comes again and again: twice is as good as ever.
            return self.reached(way, goal, [("then", weave, path), ("then", weave, path)])
        if weave[0] == "none":
            return False, True
        if weave[0] == "letter":
            return goal(path), way(path)
        if weave[0] == "then":
            return self.reached(way, goal, [("then", part, path + (at,)) for at, part in enumerate(weave[1:])])
        copies = [("then", weave[1], path + (k,)) for k in range(COPIES)]
        tail = ("tail", weave[1], path + (COPIES,))
        if weave[0] == "on":
            return self.reached(way, goal, copies + [tail])
        return self.reached_behind(way, goal, [tail] + copies[::-1], self.inside(weave[1], path + (COPIES,)))

    def reached_behind(self, way, goal, rows, first):
        """As reached, of rows in front of which there is no first copy: all of the first kind lie ahead."""
        if not all(way(spot) for spot in first):
            return False, False
        if any(goal(spot) for spot in first):
            return True, all(self.through(*row, way, goal)[1] for row in rows)
        return self.reached(way, goal, rows)

    def holds(self, formula, spot):
        """Whether a places formula holds at the places of a spot."""
        key = (formula, spot)
        if key not in self.known:
            self.known[key] = self.told(formula, spot)
        return self.known[key]

    def told(self, formula, spot):
        head = formula[0]
        if head == "mark":
            weave = self.weave
            for number in spot:
                weave = weave[1] if weave[0] in ("on", "back") else parts_by_hand(weave)[number]
            return formula[1] in weave[1]
        if head == "not":
            return not self.holds(formula[1], spot)
        if head == "both":
            return self.holds(formula[1], spot) and self.holds(formula[2], spot)
        if head == "either":
            return self.holds(formula[1], spot) or self.holds(formula[2], spot)
        if head == "since":
            if self.other is None:
                self.other = Places(turned_by_hand(self.weave))
            return self.other.holds(exchanged(formula), spot_turned(self.weave, spot))
        rows = self.stretches(self.weave, (), spot)
        return self.reached(
            lambda where: self.holds(formula[1], where), lambda where: self.holds(formula[2], where), rows)[0]


def exchanged(formula):
    """A places formula with until and since exchanged."""
    head = formula[0]
    if head == "mark":
        return formula
    head = {"until": "since", "since": "until"}.get(head, head)
    return (head,) + tuple(exchanged(part) for part in formula[1:])


def mixed_in(table, lot):
    """The mix of a lot."""
    return table[5][sum(1 << a for a in set(lot))]


def walk_by_hand(tables, given):
    """What a walk meets, things being tuples with an element of each of the tables."""
    met = []

    def meet(thing):
        if thing not in met:
            met.append(thing)

    meet((0,) * len(tables))
    for thing in given:
        meet(tuple(thing))
    before = []
    while len(before) < len(met):
        before = list(met)
        for one in before:
            for other in before:
                meet(tuple(table[2][a][b] for table, a, b in zip(tables, one, other)))
        for one in before:
            meet(tuple(table[3][a] for table, a in zip(tables, one)))
            meet(tuple(table[4][a] for table, a in zip(tables, one)))
        for number in range(1, 2 ** len(before)):
            lot = [thing for at, thing in enumerate(before) if number // 2 ** at % 2 == 1]
            meet(tuple(mixed_in(table, [thing[k] for thing in lot]) for k, table in enumerate(tables)))
    return met


def table_by_hand(tables, line):
    """The table of the things in line, told by their places."""
    def number(thing):
        return line.index(tuple(thing))

    return (
        "algebra", len(line),
        tuple(tuple(number(t[2][a][b] for t, a, b in zip(tables, x, y)) for y in line) for x in line),
        tuple(number(t[3][a] for t, a in zip(tables, x)) for x in line),
        tuple(number(t[4][a] for t, a in zip(tables, x)) for x in line),
        tuple(
            number(mixed_in(t, [x[k] for at, x in enumerate(line) if mask >> at & 1]) for k, t in enumerate(tables))
            for mask in range(1 << len(line))),
    )


def splits_by_hand(numbers):
    """All ways to put numbers into lots."""
    if not numbers:
        return [[]]
    found = []
    for rest in splits_by_hand(numbers[1:]):
        found.append([(numbers[0],)] + rest)
        for at, lot in enumerate(rest):
            found.append(rest[:at] + [(numbers[0],) + lot] + rest[at + 1:])
    return found


def is_merging_by_hand(algebra, lots):
    """Whether a tuple of lots is a merging."""
    _, many, then, on, back, _ = algebra
    if list(lots) != sorted(lots) or any(list(lot) != sorted(lot) for lot in lots):
        return False
    home = {element: at for at, lot in enumerate(lots) for element in lot}
    for lot in lots:
        for a, b in product(lot, repeat=2):
            pairs = [(on[a], on[b]), (back[a], back[b])]
            pairs += [(then[c][a], then[c][b]) for c in range(many)]
            pairs += [(then[a][c], then[b][c]) for c in range(many)]
            for other in lots_of_numbers(range(many)):
                pairs.append((mixed_in(algebra, other + (a,)), mixed_in(algebra, other + (b,))))
            if any(home[one] != home[two] for one, two in pairs):
                return False
    return True


def mergings_by_hand(algebra):
    """All mergings, in order."""
    found = []
    for lots in splits_by_hand(list(range(algebra[1]))):
        lots = tuple(sorted(tuple(sorted(lot)) for lot in lots))
        if is_merging_by_hand(algebra, lots):
            found.append(lots)
    return tuple(sorted(found))


def turns_of(algebra):
    """All turns."""
    numbers = range(algebra[1])
    found = [("left", c) for c in numbers] + [("right", c) for c in numbers] + [("on",), ("back",)]
    return found + [("mix", lot) for lot in lots_of_numbers(numbers)]


def turned_to(algebra, turn, element):
    """What a turn makes of an element."""
    _, _, then, on, back, _ = algebra
    if turn[0] == "left":
        return then[turn[1]][element]
    if turn[0] == "right":
        return then[element][turn[1]]
    if turn[0] == "mix":
        return mixed_in(algebra, turn[1] + (element,))
    return on[element] if turn[0] == "on" else back[element]


def fewest_turns(algebra, lot, first, last):
    """How many turns part two elements at least, None if none do."""
    pairs, seen, many = [(first, last)], {(first, last)}, 0
    while pairs:
        if any((a in lot) != (b in lot) for a, b in pairs):
            return many
        coming = []
        for a, b in pairs:
            for turn in turns_of(algebra):
                pair = (turned_to(algebra, turn, a), turned_to(algebra, turn, b))
                if pair not in seen:
                    seen.add(pair)
                    coming.append(pair)
        pairs, many = coming, many + 1
    return None


def same_words(one, other):
    """Whether two readers of one scope take the same words: by all pairs of values that are met."""
    met = walk_by_hand((one[2], other[2]), list(zip(one[3], other[3])))
    return all((a in one[4]) == (b in other[4]) for a, b in met)


def moved(reader, order):
    """The reader with its elements in other seats: a is now order[a]; order[0] is 0."""
    _, scope, (_, many, then, on, back, mix), starts, takes = reader
    home = [order.index(seat) for seat in range(many)]
    algebra = (
        "algebra", many, tuple(tuple(order[then[home[a]][home[b]]] for b in range(many)) for a in range(many)),
        tuple(order[on[home[a]]] for a in range(many)), tuple(order[back[home[a]]] for a in range(many)),
        tuple(order[mix[sum(1 << home[a] for a in range(many) if mask >> a & 1)]] for mask in range(1 << many)),
    )
    return ("reader", scope, algebra, tuple(order[a] for a in starts), tuple(sorted(order[a] for a in takes)))


def products_by_hand(algebra, lot):
    """All products of one or more elements of a lot."""
    found = set(lot)
    while True:
        more = found | {algebra[2][a][b] for a in found for b in lot}
        if more == found:
            return found
        found = more


def on_by_hand(algebra, lot):
    """on_of of a lot."""
    rows = products_by_hand(algebra, lot)
    return {algebra[2][s][algebra[3][e]] for s in rows for e in rows}


def back_by_hand(algebra, lot):
    """back_of of a lot."""
    rows = products_by_hand(algebra, lot)
    return {algebra[2][algebra[4][e]][s] for s in rows for e in rows}


def due_by_hand(algebra, kinds, lot):
    """What must be in a closed lot that has this one."""
    then = algebra[2]
    whole = {a for kind in kinds for a in kind}
    lot = set(lot)
    ends = {then[y][a] for y in lot for a in whole}
    begins = {then[a][y] for y in lot for a in whole}
    beside = lot | ends | begins | {then[then[a][y]][b] for y in lot for a in whole for b in whole}
    found = set()
    for other in lots_of_numbers(whole | beside):
        if set(other) & beside or (set(other) <= whole and all(set(other) & set(kind) for kind in kinds)):
            found.add(mixed_in(algebra, other))
    found |= {then[y][z] for y in lot for z in lot} | {then[then[y][a]][z] for y in lot for a in whole for z in lot}
    if lot:
        found |= on_by_hand(algebra, lot | ends) | back_by_hand(algebra, lot | begins)
    return found


def closed_by_hand(algebra, kinds, lot):
    """Whether a lot is closed."""
    return due_by_hand(algebra, kinds, lot) <= set(lot)


def least_closed_by_hand(algebra, kinds):
    """The least closed lot."""
    lot = set()
    while not closed_by_hand(algebra, kinds, lot):
        lot |= due_by_hand(algebra, kinds, lot)
    return tuple(sorted(lot))


def lots_by_hand(algebra, given, most=10):
    """What lots_of tells, None if more lots are come to."""
    lots = []

    def meet(lot):
        lot = tuple(sorted(lot))
        if lot not in lots:
            lots.append(lot)
        return lots.index(lot)

    def then(one, other):
        return {algebra[2][a][b] for a in one for b in other}

    def mix(number, row):
        return least_closed_by_hand(algebra, [lot for at, lot in enumerate(row) if number >> at & 1])

    for lot in ((0,),) + tuple(given):
        meet(lot)
    known = []
    while len(known) < len(lots):
        known = list(lots)
        for one in known:
            for other in known:
                meet(then(one, other))
        for lot in known:
            meet(on_by_hand(algebra, lot))
        for lot in known:
            meet(back_by_hand(algebra, lot))
        if len(lots) > most:
            return None
        for number in range(1, 2 ** len(known)):
            meet(mix(number, known))
            if len(lots) > most:
                return None
    ways = (
        tuple(tuple(meet(then(one, other)) for other in lots) for one in lots),
        tuple(meet(on_by_hand(algebra, lot)) for lot in lots), tuple(meet(back_by_hand(algebra, lot)) for lot in lots),
    )
    mixes = (0,) + tuple(meet(mix(number, lots)) for number in range(1, 2 ** len(lots)))
    return tuple(lots), ways, mixes
