"""Words, weaves and algebras that tests share."""

from random import Random

A = ("letter", ())
X = ("letter", ("x",))
Y = ("letter", ("y",))
NONE = ("none",)


def on(weave):
    return ("on", weave)


def back(weave):
    return ("back", weave)


def then(*weaves):
    whole = weaves[-1]
    for weave in reversed(weaves[:-1]):
        whole = ("then", weave, whole)
    return whole


def mix(*parts):
    return ("mix", tuple(sorted(set(parts))))


def bush(many):
    """A weave of many nodes, an odd number, that is not deep."""
    if many == 1:
        return A
    half = (many - 1) // 2
    half = half if half % 2 else half + 1
    return ("then", bush(half), bush(many - 1 - half))


def letters_by_hand(scope):
    """The letters of a scope of 0 to 3 names, written out."""
    if len(scope) == 0:
        return ((),)
    if len(scope) == 1:
        return ((), scope)
    if len(scope) == 2:
        x, y = scope
        return ((), (x,), (y,), (x, y))
    x, y, z = scope
    return ((), (x,), (y,), (x, y), (z,), (x, z), (y, z), (x, y, z))


def parts_by_hand(weave):
    if weave[0] in ("none", "letter"):
        return ()
    return weave[1] if weave[0] == "mix" else weave[1:]


def any_weave(random, scope, deep, heads=("none", "letter", "then", "then", "on", "back", "mix")):
    """Some weave of the scope, at most deep deep."""
    head = random.choice(heads) if deep > 1 else "letter"
    if head == "none":
        return NONE
    if head == "letter":
        return ("letter", random.choice(letters_by_hand(scope)))
    many = {"then": 2, "on": 1, "back": 1, "mix": random.randrange(1, 4)}[head]
    parts = [any_weave(random, scope, deep - 1, heads) for _ in range(many)]
    return mix(*parts) if head == "mix" else (head,) + tuple(parts)


def many_weaves(seed, scope, deep, many, heads=("none", "letter", "then", "then", "on", "back", "mix")):
    """Some weaves of the scope, the same ones each time."""
    random = Random(seed)
    return [any_weave(random, scope, deep, heads) for _ in range(many)]


def spots_by_hand(weave, most):
    """The spots of a weave with numbers of copies up to most."""
    if weave[0] == "letter":
        return [()]
    found = []
    if weave[0] in ("on", "back"):
        for number in range(most + 1):
            found.extend((number,) + spot for spot in spots_by_hand(weave[1], most))
        return found
    for number, part in enumerate(parts_by_hand(weave)):
        found.extend((number,) + spot for spot in spots_by_hand(part, most))
    return found


def places_in_order(weave):
    """The spots of a weave of none, letter and then, first to last."""
    return spots_by_hand(weave, 0)


def turned_by_hand(weave):
    """The weave of the word from its end to its beginning."""
    head = weave[0]
    if head in ("none", "letter"):
        return weave
    if head == "then":
        return ("then", turned_by_hand(weave[2]), turned_by_hand(weave[1]))
    if head == "mix":
        return mix(*[turned_by_hand(part) for part in weave[1]])
    return ("back" if head == "on" else "on", turned_by_hand(weave[1]))


def spot_turned(weave, spot):
    """The spot of the same places in the turned weave."""
    if spot == ():
        return ()
    head, number = weave[0], spot[0]
    if head in ("on", "back"):
        return (number,) + spot_turned(weave[1], spot[1:])
    part = parts_by_hand(weave)[number]
    if head == "then":
        return (1 - number,) + spot_turned(part, spot[1:])
    return (turned_by_hand(weave)[1].index(turned_by_hand(part)),) + spot_turned(part, spot[1:])


def table_by(many, then_by, on_by, back_by, mix_by):
    """A table whose operations are told by functions, mix by one of the lot."""
    numbers = range(many)
    lots = [[a for a in numbers if mask >> a & 1] for mask in range(1 << many)]
    return (
        "algebra", many, tuple(tuple(then_by(a, b) for b in numbers) for a in numbers),
        tuple(on_by(a) for a in numbers), tuple(back_by(a) for a in numbers),
        (0,) + tuple(mix_by(lot) for lot in lots[1:]),
    )


def tallied(most):
    """How many places, counted up to most."""
    def endless(a):
        return most if a else 0
    return table_by(most + 1, lambda a, b: min(a + b, most), endless, endless, lambda lot: most if any(lot) else 0)


def borne(many):
    """Which of many marks are borne anywhere."""
    def united(lot):
        whole = 0
        for a in lot:
            whole = whole | a
        return whole
    return table_by(1 << many, lambda a, b: a | b, lambda a: a, lambda a: a, united)


def led(many):
    """Which mark the first place bears."""
    def headless(a):
        return 1 if a else 0
    return table_by(many + 2, lambda a, b: a or b, lambda a: a, headless, lambda lot: 1 if any(lot) else 0)


def ordered():
    """None, well ordered, scattered, any."""
    return table_by(
        4, max, lambda a: a, lambda a: max(a, 2) if a else 0, lambda lot: 3 if any(lot) else 0)


def flipped_by_hand(table):
    """The algebra of words from their end to their beginning."""
    _, many, then_, on_, back_, mix_ = table
    return ("algebra", many, tuple(tuple(then_[b][a] for b in range(many)) for a in range(many)), back_, on_, mix_)


ALGEBRAS = (
    tallied(1), tallied(2), tallied(3), tallied(7), borne(1), borne(2), borne(3), led(1), led(2), led(6),
    flipped_by_hand(led(2)), flipped_by_hand(led(3)), ordered(), flipped_by_hand(ordered()),
)
SMALL_ALGEBRAS = tuple(table for table in ALGEBRAS if table[1] <= 5)


# All algebras of three elements, found by trying all tables.
THREES = (
    ('algebra', 3, ((0, 1, 2), (1, 1, 1), (2, 1, 1)), (0, 1, 1), (0, 1, 1), (0, 0, 1, 1, 1, 1, 1, 1)),
    ('algebra', 3, ((0, 1, 2), (1, 1, 1), (2, 1, 2)), (0, 1, 1), (0, 1, 1), (0, 0, 1, 1, 1, 1, 1, 1)),
    ('algebra', 3, ((0, 1, 2), (1, 1, 1), (2, 1, 2)), (0, 1, 1), (0, 1, 2), (0, 0, 1, 1, 1, 1, 1, 1)),
    ('algebra', 3, ((0, 1, 2), (1, 1, 1), (2, 1, 2)), (0, 1, 2), (0, 1, 1), (0, 0, 1, 1, 1, 1, 1, 1)),
    ('algebra', 3, ((0, 1, 2), (1, 1, 1), (2, 1, 2)), (0, 1, 2), (0, 1, 2), (0, 0, 1, 1, 1, 1, 1, 1)),
    ('algebra', 3, ((0, 1, 2), (1, 1, 1), (2, 1, 2)), (0, 1, 2), (0, 1, 2), (0, 0, 1, 1, 2, 2, 1, 1)),
    ('algebra', 3, ((0, 1, 2), (1, 1, 1), (2, 2, 2)), (0, 1, 2), (0, 1, 1), (0, 0, 1, 1, 1, 1, 1, 1)),
    ('algebra', 3, ((0, 1, 2), (1, 1, 1), (2, 2, 2)), (0, 1, 2), (0, 2, 2), (0, 0, 2, 2, 2, 2, 2, 2)),
    ('algebra', 3, ((0, 1, 2), (1, 1, 2), (2, 1, 2)), (0, 1, 1), (0, 1, 2), (0, 0, 1, 1, 1, 1, 1, 1)),
    ('algebra', 3, ((0, 1, 2), (1, 1, 2), (2, 1, 2)), (0, 2, 2), (0, 1, 2), (0, 0, 2, 2, 2, 2, 2, 2)),
    ('algebra', 3, ((0, 1, 2), (1, 1, 2), (2, 2, 2)), (0, 1, 2), (0, 1, 2), (0, 0, 1, 1, 2, 2, 2, 2)),
    ('algebra', 3, ((0, 1, 2), (1, 1, 2), (2, 2, 2)), (0, 1, 2), (0, 1, 2), (0, 0, 2, 2, 2, 2, 2, 2)),
    ('algebra', 3, ((0, 1, 2), (1, 1, 2), (2, 2, 2)), (0, 1, 2), (0, 2, 2), (0, 0, 2, 2, 2, 2, 2, 2)),
    ('algebra', 3, ((0, 1, 2), (1, 1, 2), (2, 2, 2)), (0, 2, 2), (0, 1, 2), (0, 0, 2, 2, 2, 2, 2, 2)),
    ('algebra', 3, ((0, 1, 2), (1, 1, 2), (2, 2, 2)), (0, 2, 2), (0, 2, 2), (0, 0, 2, 2, 2, 2, 2, 2)),
    ('algebra', 3, ((0, 1, 2), (1, 2, 2), (2, 2, 2)), (0, 2, 2), (0, 2, 2), (0, 0, 2, 2, 2, 2, 2, 2)),
)


def mixed_evenly():
    """1 and 2 words of one kind of places, 3 of both, 4 where both are mixed evenly: met by a mix of two alone."""
    def joined(a, b):
        if a == 0 or b == 0:
            return a + b
        if 4 in (a, b):
            return 4
        return a if a == b else 3

    def mixed(lot):
        lot = set(lot) - {0}
        if not lot:
            return 0
        if 4 in lot or {1, 2} <= lot:
            return 4
        return lot.pop() if len(lot) == 1 else 3

    return table_by(5, joined, lambda a: a, lambda a: a, mixed)


def ended():
    """1 finite, 2 well ordered without a last place, 3 endless with a last one: met by then of 2 and 1 alone; 4 others."""
    def joined(a, b):
        if a == 0 or b == 0:
            return a + b
        if 4 in (a, b):
            return 4
        if b == 2:
            return 2
        return 1 if (a, b) == (1, 1) else 3

    return table_by(5, joined, lambda a: (0, 2, 2, 2, 4)[a], lambda a: 4 if a else 0, lambda lot: 4 if any(lot) else 0)


MORE_ALGEBRAS = (mixed_evenly(), ended(), flipped_by_hand(ended()))
