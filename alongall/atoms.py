"""Readers of atoms and shorts."""

from alongall.algebras import lot_in
from alongall.building import flipped_over
from alongall.least import least_of
from alongall.scopes import letter_row, scope_of

# Each is told by then, on, back, and the mix of one element alone; 0 is no place that counts. The last element
# stays whatever comes.
TABLES = {
    # Whether some place bears a mark.
    "borne": (((0, 1), (1, 1)), (0, 1), (0, 1), (0, 1)),
    # How many places bear it: none, one, more.
    "counted": (((0, 1, 2), (1, 2, 2), (2, 2, 2)), (0, 2, 2), (0, 2, 2), (0, 2, 2)),
    # Places of two kinds: 1 the first kind alone, 2 the other one alone, 3 all of the first ahead of all of the other.
    "sorted": (
        ((0, 1, 2, 3, 4), (1, 1, 3, 3, 4), (2, 4, 2, 4, 4), (3, 4, 3, 4, 4), (4, 4, 4, 4, 4)),
        (0, 1, 2, 4, 4), (0, 1, 2, 4, 4), (0, 1, 2, 4, 4),
    ),
    # Places of the second name: 1 without the first name, 2 the first of them bears it alone.
    "leading": (((0, 1, 2, 3), (1, 1, 3, 3), (2, 2, 3, 3), (3, 3, 3, 3)), (0, 1, 3, 3), (0, 1, 3, 3), (0, 1, 3, 3)),
    # All places: 1 no names, 2 the first name at the end, 3 the second one at the beginning, 4 the two side by side.
    "touching": (
        (
            (0, 1, 2, 3, 4, 5), (1, 1, 2, 5, 4, 5), (2, 5, 5, 4, 5, 5),
            (3, 3, 5, 5, 5, 5), (4, 4, 5, 5, 5, 5), (5, 5, 5, 5, 5, 5),
        ),
        (0, 1, 5, 5, 5, 5), (0, 1, 5, 5, 5, 5), (0, 1, 5, 5, 5, 5),
    ),
    # Dense places: 1 with a first and a last one, 2 with a first one, 3 with a last one, 4 with neither.
    "dense": (
        (
            (0, 1, 2, 3, 4, 5), (1, 5, 5, 1, 2, 5), (2, 1, 2, 1, 2, 5),
            (3, 5, 5, 3, 4, 5), (4, 3, 4, 3, 4, 5), (5, 5, 5, 5, 5, 5),
        ),
        (0, 5, 2, 4, 4, 5), (0, 5, 4, 3, 4, 5), (0, 4, 4, 4, 4, 5),
    ),
    # Each of these: 1 places that are so, 2 places that are not.
    "finite": (((0, 1, 2), (1, 1, 2), (2, 2, 2)), (0, 2, 2), (0, 2, 2), (0, 2, 2)),
    "well": (((0, 1, 2), (1, 1, 2), (2, 2, 2)), (0, 1, 2), (0, 2, 2), (0, 2, 2)),
    "scattered": (((0, 1, 2), (1, 1, 2), (2, 2, 2)), (0, 1, 2), (0, 1, 2), (0, 2, 2)),
}
# The table, the starts of places with no name, the first one, the second one, both, and what is taken.
READERS = {
    "sub": ("borne", (0, 1, 0, 0), (0,)),
    "ahead": ("sorted", (0, 1, 2, 4), (0, 1, 2, 3)),
    "one": ("counted", (0, 0, 0, 1), (1,)),
    "bare": ("borne", (0, 0, 0, 1), (0,)),
    "same": ("borne", (0, 1, 1, 0), (0,)),
    "apart": ("borne", (0, 0, 0, 1), (0,)),
    "first": ("leading", (0, 3, 1, 2), (2,)),
    "last": ("leading", (0, 3, 1, 2), (2,)),
    "next": ("touching", (1, 2, 3, 5), (4,)),
    "down": ("sorted", (2, 2, 2, 1), (0, 1, 2, 3)),
    "dense": ("dense", (0, 0, 0, 1), (0, 1, 2, 3, 4)),
    "finite": ("finite", (0, 0, 0, 1), (0, 1)),
    "well": ("well", (0, 0, 0, 1), (0, 1)),
    "scattered": ("scattered", (0, 0, 0, 1), (0, 1)),
}


def mix_alone(alone, lot):
    """The mix of a lot: what each of its elements would make alone, the last element if they are at odds."""
    told = sorted(set([alone[a] for a in lot if a > 0]))
    if len(told) == 0:
        return 0
    return told[0] if len(told) == 1 else len(alone) - 1


def algebra_of(word):
    """The algebra that a word stands for in the tables."""
    then, on, back, alone = TABLES[word]
    mix = tuple([mix_alone(alone, lot_in(mask)) for mask in range(1 << len(on))])
    return ("algebra", len(on), then, on, back, mix)


def atom_reader(formula):
    """The least reader of an atom or a short."""
    word, starts, taken = READERS[formula[0]]
    algebra = algebra_of(word)
    if formula[0] == "last":
        algebra = flipped_over(algebra)
    scope = scope_of(formula[1:])
    numbers = [(formula[1] in letter) + 2 * (formula[-1] in letter) for letter in letter_row(scope)]
    return least_of(scope, algebra, [starts[number] for number in numbers], taken)
