"""Rows of the rules, told by the document's words, and roads that lead anywhere."""

from tests.samples import NONE, back, mix, on, parts_by_hand, then


def placed_in(weave, path, part):
    """The weave with part at a path, parts of mixes put in order, each once."""
    if path == ():
        return part
    parts = list(parts_by_hand(weave))
    parts[path[0]] = placed_in(parts[path[0]], path[1:], part)
    return mix(*parts) if weave[0] == "mix" else (weave[0],) + tuple(parts)


def part_by_hand(weave, path):
    for number in path:
        weave = parts_by_hand(weave)[number]
    return weave


def paths_in(weave):
    """All paths of a weave."""
    found = [()]
    for number, part in enumerate(parts_by_hand(weave)):
        found.extend((number,) + path for path in paths_in(part))
    return found


def rows_of_three(e, f, g):
    """Pairs of weaves that are a rule, by name of the row, made of three weaves."""
    ef = ("then", e, f)
    m = mix(e, f)
    found = {
        "none": [
            (("then", NONE, e), e), (("then", e, NONE), e), (on(NONE), NONE), (back(NONE), NONE), (mix(NONE), NONE),
        ],
        "group": [(("then", ef, g), ("then", e, ("then", f, g)))],
        "roll": [(on(e), ("then", e, on(e))), (back(e), ("then", back(e), e))],
        "shift": [
            (on(ef), ("then", e, on(("then", f, e)))), (back(ef), ("then", back(("then", f, e)), f)),
        ],
        "times": [(way(e), way(then(*[e] * many))) for many in (2, 3, 4) for way in (on, back)],
        "dense": [],
        "nest": [],
    }
    if NONE not in (e, f):
        found["none"].append((mix(NONE, e, f), mix(e, f)))
        found["none"].append((mix(NONE, e), mix(e)))
    for c in m[1]:
        found["dense"] += [
            (m, ("then", m, m)), (m, then(m, c, m)), (m, on(m)), (m, on(("then", m, c))), (m, back(m)), (m, back(("then", c, m)))]
        for d in m[1]:
            forms = [m, ("then", c, m), ("then", m, d), then(c, m, d)]
            for form in forms:
                found["nest"] += [(m, mix(form)), (m, mix(form, c)), (m, mix(form, e, f))]
            found["nest"] += [(m, mix(*forms)), (m, mix(forms[1], forms[3], d)), (m, mix(forms[0], forms[2], e, f))]
    return found


def rules_from(weave):
    """Weaves that are a rule with a weave, by making what is told there."""
    head = weave[0]
    found = [("then", NONE, weave), ("then", weave, NONE)]
    if head == "then":
        _, e, f = weave
        if e == NONE:
            found.append(f)
        if f == NONE:
            found.append(e)
        if e[0] == "then":
            found.append(("then", e[1], ("then", e[2], f)))
        if f[0] == "then":
            found.append(("then", ("then", e, f[1]), f[2]))
        if f == on(e):
            found.append(f)
        if e == back(f):
            found.append(e)
    if head == "on":
        found += [("then", weave[1], weave), on(("then", weave[1], weave[1])), on(then(*[weave[1]] * 3))]
        if weave[1][0] == "then":
            found.append(("then", weave[1][1], on(("then", weave[1][2], weave[1][1]))))
    if head == "back":
        found += [("then", weave, weave[1]), back(("then", weave[1], weave[1]))]
        if weave[1][0] == "then":
            found.append(("then", back(("then", weave[1][2], weave[1][1])), weave[1][2]))
    if head == "mix":
        c, d = weave[1][0], weave[1][-1]
        found += [("then", weave, weave), then(weave, c, weave), on(weave), on(("then", weave, d)), back(weave), back(("then", c, weave))]
        found += [mix(weave), mix(("then", c, weave), d), mix(then(c, weave, d), *weave[1]), mix(("then", weave, c))]
        if NONE in weave[1] and len(weave[1]) > 1:
            found.append(mix(*[part for part in weave[1] if part != NONE]))
        if NONE not in weave[1]:
            found.append(mix(NONE, *weave[1]))
    return found


def some_road(random, weave, long):
    """A road of so many steps and where it leads to."""
    road = []
    for _ in range(long):
        path = random.choice(paths_in(weave))
        part = random.choice(rules_from(part_by_hand(weave, path)))
        road.append((path, part))
        weave = placed_in(weave, path, part)
    return tuple(road), weave


def nodes_by_hand(weave):
    return 1 + sum(nodes_by_hand(part) for part in parts_by_hand(weave))


def road_to(random, target, long):
    """A weave and a road from it to a target, each step of which makes it smaller."""
    here, steps = target, []
    for _ in range(long):
        path = random.choice(paths_in(here))
        old = part_by_hand(here, path)
        part = random.choice(rules_from(old))
        new = placed_in(here, path, part)
        # Parts of mixes may have changed their places, or fallen together: then the step does not lead back.
        if nodes_by_hand(new) > nodes_by_hand(here) and path in paths_in(new) and placed_in(new, path, old) == here:
            if part_by_hand(new, path) == part:
                steps.append((path, old))
                here = new
    return here, steps[::-1]


def weaves_within(weave):
    """The weave and all weaves in it."""
    found = [weave]
    for part in parts_by_hand(weave):
        found += weaves_within(part)
    return found


def is_row_by_hand(one, other):
    """Whether two weaves are, in this order, the two of a row of the rules: by trying all e, f, g and P in them."""
    parts = [NONE] + weaves_within(one) + weaves_within(other)
    for e in parts:
        row = ("then", e, e)
        for _ in range(12):
            if (one, other) in ((on(e), on(row)), (back(e), back(row))):
                return True
            row = ("then", e, row)
        if (one, other) in (
            (("then", NONE, e), e), (("then", e, NONE), e), (on(NONE), NONE), (back(NONE), NONE), (mix(NONE), NONE),
            (on(e), ("then", e, on(e))), (back(e), ("then", back(e), e)),
        ):
            return True
        for f in parts:
            if (one, other) in (
                (on(("then", e, f)), ("then", e, on(("then", f, e)))), (back(("then", e, f)), ("then", back(("then", f, e)), f)),
            ):
                return True
            if one[0] == "then" and one[1] == ("then", e, f) and other == ("then", e, ("then", f, one[2])):
                return True
    if one[0] != "mix":
        return False
    return is_mix_row_by_hand(one, other)


def is_mix_row_by_hand(m, other):
    """The rows that begin with a mix."""
    if NONE in m[1] and len(m[1]) > 1 and other == mix(*[part for part in m[1] if part != NONE]):
        return True
    if other in (then(m, m), on(m), back(m)):
        return True
    if any(other in (then(m, c, m), on(("then", m, c)), back(("then", c, m))) for c in m[1]):
        return True
    forms = [m] + [("then", c, m) for c in m[1]] + [("then", m, d) for d in m[1]] + [then(c, m, d) for c in m[1] for d in m[1]]
    return other[0] == "mix" and any(part in forms for part in other[1]) and all(part in forms or part in m[1] for part in other[1])
