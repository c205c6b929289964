"""Values of every kind, and right values made wrong at one place."""


def nested(head, many):
    """A tuple that is many deep: ("not", ("not", ...)) for the head "not"."""
    thing = (head,)
    for _ in range(many):
        thing = (head, thing)
    return thing


def doubled(head, leaf, many):
    """A small tuple that stands for a tree of 2 ** many leaves."""
    thing = leaf
    for _ in range(many):
        thing = (head, thing, thing)
    return thing


class Strange:
    """A value that does not let itself be compared."""

    __hash__ = None

    def __eq__(self, other):
        raise RuntimeError("compared")

    def __lt__(self, other):
        raise RuntimeError("compared")


def odd_values():
    """Values that are nothing the document speaks of."""
    ring = []
    ring.append(ring)
    return [
        None, True, False, -1, 10 ** 30, 1.0, 0.5, float("nan"), 1j, "X", "ab c", "x" * 9, "scattered", b"x", b"",
        [], ["none"], {}, {"x": 1}, set(), {1}, frozenset(), object(), Strange(), int, len, range(3), ring, (ring,),
        (None,), (True,), ((),), ((), ()), ("",), ("none", "none", "none"), (Strange(),), (Strange(), Strange()),
        ("none", Strange()), ("letter", Strange()), ("mix", Strange()), ("mix", (Strange(), Strange())),
        ("algebra", Strange(), Strange(), Strange(), Strange(), Strange()), (b"none",),
        ("reader", Strange(), Strange(), Strange(), Strange()), nested("not", 100000), nested("on", 100000),
        tuple(range(100000)), ("mix", tuple(("letter", (name,)) for name in ["x"] * 100000)),
        doubled("then", ("none",), 90), doubled("both", ("one", "x"), 90), iter(()), (x for x in ()),
    ]


def spoiled(thing):
    """Values like a right one, but for one part that no rule of the document lets pass."""
    if isinstance(thing, tuple):
        yield list(thing)
        yield thing + (None,)
        for at, part in enumerate(thing):
            for other in spoiled(part):
                yield thing[:at] + (other,) + thing[at + 1:]
        return
    yield None
    yield Strange()
    yield (thing,)
    if isinstance(thing, int):
        yield float(thing)
        yield str(thing)
        yield -1 - thing
        yield thing + 1000
        if thing in (0, 1):
            yield bool(thing)
    else:
        yield thing.upper() + "_"
        yield thing.encode()
