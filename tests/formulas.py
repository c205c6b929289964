"""Formulas that tests share, and what they mean in finite words, by the document's words."""

from random import Random

ONE_NAMED = ("bare", "down", "dense", "finite", "well", "scattered")
TWO_NAMED = ("same", "apart", "first", "last", "next")


def atoms(names, shorts=True):
    """All atoms, and shorts, of some names."""
    found = [("one", x) for x in names] + [(head, x, y) for head in ("sub", "ahead") for x in names for y in names]
    if shorts:
        found += [(head, x) for head in ONE_NAMED for x in names]
        found += [(head, x, y) for head in TWO_NAMED for x in names for y in names]
    return found


def any_formula(random, names, deep, shorts=True):
    """Some formula of these names, at most deep deep."""
    head = random.choice(("not", "both", "either", "some", "all", "atom", "atom")) if deep > 1 else "atom"
    if head == "atom":
        return random.choice(atoms(names, shorts))
    if head == "not":
        return (head, any_formula(random, names, deep - 1, shorts))
    if head in ("some", "all"):
        return (head, random.choice(names), any_formula(random, names, deep - 1, shorts))
    return (head, any_formula(random, names, deep - 1, shorts), any_formula(random, names, deep - 1, shorts))


def many_formulas(seed, names, deep, many, shorts=True):
    """Some formulas, the same ones each time."""
    random = Random(seed)
    return [any_formula(random, names, deep, shorts) for _ in range(many)]


def free_by_hand(formula):
    """The names that are free."""
    head = formula[0]
    if head == "not":
        return free_by_hand(formula[1])
    if head in ("both", "either"):
        return free_by_hand(formula[1]) | free_by_hand(formula[2])
    if head in ("some", "all"):
        return free_by_hand(formula[2]) - {formula[1]}
    return set(formula[1:])


def short_holds(formula, many, sets):
    """Whether a short holds in a word of so many places; sets tell places from 0."""
    head, x, y = formula[0], sets[formula[1]], sets[formula[-1]]
    if head == "bare":
        return not x
    if head == "same":
        return x == y
    if head == "apart":
        return not x & y
    if head == "first":
        return len(x) == 1 and bool(y) and min(y) in x
    if head == "last":
        return len(x) == 1 and bool(y) and max(y) in x
    if head == "next":
        return len(x) == 1 and len(y) == 1 and min(y) == min(x) + 1
    if head == "down":
        return x == set(range(len(x)))
    if head == "dense":
        return len(x) < 2
    return True


def holds(formula, many, sets):
    """Whether a formula holds in a word of so many places, by [42]."""
    head = formula[0]
    if head == "sub":
        return sets[formula[1]] <= sets[formula[2]]
    if head == "ahead":
        return all(p < q for p in sets[formula[1]] for q in sets[formula[2]])
    if head == "one":
        return len(sets[formula[1]]) == 1
    if head == "not":
        return not holds(formula[1], many, sets)
    if head == "both":
        return holds(formula[1], many, sets) and holds(formula[2], many, sets)
    if head == "either":
        return holds(formula[1], many, sets) or holds(formula[2], many, sets)
    if head not in ("some", "all"):
        return short_holds(formula, many, sets)
    asked = any if head == "some" else all
    return asked(
        holds(formula[2], many, {**sets, formula[1]: {p for p in range(many) if mask >> p & 1}}) for mask in range(1 << many))


def sets_of(scope, row):
    """For each name the set of places that bear it, of a row of letters."""
    return {name: {p for p, letter in enumerate(row) if name in letter} for name in scope}


def implies(one, other):
    return ("either", ("not", one), other)


def all_of(*parts):
    whole = parts[-1]
    for part in reversed(parts[:-1]):
        whole = ("both", part, whole)
    return whole


def lead(u, v, k, last=False):
    beside = ("ahead", k, u) if last else ("ahead", u, k)
    inside = implies(all_of(("one", k), ("sub", k, v)), ("either", ("sub", k, u), beside))
    return all_of(("one", u), ("sub", u, v), ("all", k, inside))


def told_short(short):
    """[48]: a formula that says what a short says."""
    head, x, y = short[0], short[1], short[-1]
    p, q, r = [name for name in "abcdef" if name not in short[1:]][:3]
    if head == "bare":
        return ("ahead", x, x)
    if head == "same":
        return all_of(("sub", x, y), ("sub", y, x))
    if head == "apart":
        return ("all", p, implies(all_of(("sub", p, x), ("sub", p, y)), ("ahead", p, p)))
    if head in ("first", "last"):
        return lead(x, y, p, head == "last")
    if head == "next":
        between = implies(all_of(("one", p), ("ahead", x, p)), ("not", ("ahead", p, y)))
        return all_of(("one", x), ("one", y), ("ahead", x, y), ("all", p, between))
    if head == "down":
        inner = ("all", q, implies(all_of(("one", q), ("ahead", q, p)), ("either", ("ahead", p, p), ("sub", q, x))))
        return ("all", p, implies(("sub", p, x), inner))
    if head == "dense":
        return ("not", ("some", p, beside(p, x, q)))
    if head == "well":
        return well(x, p, q, r, False)
    if head == "finite":
        return all_of(well(x, p, q, r, False), well(x, p, q, r, True))
    inner = implies(
        all_of(("sub", p, x), ("not", ("some", q, beside(q, p, r)))), ("either", ("ahead", p, p), ("one", p)))
    return ("all", p, inner)


def well(x, p, q, r, last):
    some = ("either", ("ahead", p, p), ("some", q, lead(q, p, r, last)))
    return ("all", p, implies(("sub", p, x), some))


def two(u, k):
    only = implies(("sub", k, u), ("either", ("sub", u, k), ("either", ("ahead", k, k), ("one", k))))
    return all_of(("not", ("ahead", u, u)), ("not", ("one", u)), ("all", k, only))


def beside(u, v, k):
    around = implies(
        all_of(("one", k), ("sub", k, v)), ("either", ("sub", k, u), ("either", ("ahead", k, u), ("ahead", u, k))))
    return all_of(("sub", u, v), two(u, k), ("all", k, around))
