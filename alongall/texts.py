"""Texts of formulas."""

from alongall.errors import BadFormula, BadText
from alongall.formulas import ATOMS, JOINTS, MOST_NODES, SHORTS, is_long, need_measured
from alongall.reading import Reading

BETWEEN = {"both": " & ", "either": " | "}


def text_below(formula):
    """The text of what is built as a long formula."""
    head = formula[0]
    if head == "sub":
        return formula[1] + " in " + formula[2]
    if head == "ahead":
        return formula[1] + " < " + formula[2]
    if head not in JOINTS:
        return " ".join(formula)
    if head == "not":
        return "!" + text_below(formula[1])
    if head in BETWEEN:
        return "(" + text_below(formula[1]) + BETWEEN[head] + text_below(formula[2]) + ")"
    return head + " " + formula[1] + ": " + text_below(formula[2])


def text_of(formula):
    """The text of a formula, perhaps a long one."""
    need_measured(formula)
    return text_below(formula)


def read_pair(reading):
    """The formula of a text that begins with a bracket."""
    reading.grow(2)
    reading.take("(")
    one = read_formula(reading)
    reading.take(" ")
    head = "either" if reading.sign() == "|" else "both"
    reading.take(BETWEEN[head].strip() + " ")
    other = read_formula(reading)
    reading.take(")")
    return head, one, other


def read_named(reading, head):
    """The atom or short whose word stands ahead."""
    names = []
    for _ in range((ATOMS[head] if head in ATOMS else SHORTS[head]) - 1):
        reading.take(" ")
        names.append(reading.named())
    return (head,) + tuple(names)


def read_bound(reading, head):
    """The formula whose some or all stands ahead."""
    reading.grow(1)
    reading.take(" ")
    name = reading.named()
    reading.take(": ")
    return head, name, read_formula(reading)


def read_compared(reading, name):
    """The atom whose first name stands ahead."""
    reading.take(" ")
    head = "ahead" if reading.sign() == "<" else "sub"
    reading.take("< " if head == "ahead" else "in ")
    return head, name, reading.named()


def read_formula(reading):
    """The tree of the text from here on, as far as it goes."""
    sign = reading.sign()
    if sign == "!":
        reading.grow(1)
        reading.take(sign)
        return "not", read_formula(reading)
    if sign == "(":
        return read_pair(reading)
    start = reading.at
    word = reading.letters()
    if word == "scattere":
        # No name has the 9 letters of this one word.
        reading.at = start
        return read_scattered(reading)
    if word in ("some", "all"):
        return read_bound(reading, word)
    if word == "one" or word in SHORTS:
        return read_named(reading, word)
    reading.at = start
    return read_compared(reading, reading.named())


def read_scattered(reading):
    """The formula of a text that begins with scattere."""
    word = reading.letters()
    if reading.sign() == " ":
        return read_compared(reading, word)
    reading.take("d")
    return read_named(reading, "scattered")


def formula_of(text):
    """The formula, perhaps a long one, with this text."""
    if not isinstance(text, str):
        raise BadText(0)
    reading = Reading(text, MOST_NODES)
    tree = read_formula(reading)
    reading.end()
    if not is_long(tree):
        raise BadFormula("a part has more than 3 free names")
    return tree
