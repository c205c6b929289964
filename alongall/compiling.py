"""Readers of formulas."""

from alongall.atoms import atom_reader
from alongall.changing import widened_least
from alongall.combining import both_least, contrary_least, either_least
from alongall.formulas import JOINTS, need_measured
from alongall.hiding import hidden_least
from alongall.scopes import scope_of


def combined(formula):
    """The reader of both or either of two formulas."""
    one = reader_below(formula[1])
    other = reader_below(formula[2])
    scope = scope_of(one[1] + other[1])
    one = widened_least(one, scope)
    other = widened_least(other, scope)
    return both_least(one, other) if formula[0] == "both" else either_least(one, other)


def bound(formula):
    """The reader of some or all of a formula."""
    head, name, part = formula
    reader = reader_below(part)
    if name not in reader[1]:
        return reader
    if head == "some":
        return hidden_least(reader, name)
    return contrary_least(hidden_least(contrary_least(reader), name))


def reader_below(formula):
    """What reader_of tells of what is a long formula."""
    head = formula[0]
    if head not in JOINTS:
        return atom_reader(formula)
    if head == "not":
        return contrary_least(reader_below(formula[1]))
    return combined(formula) if head in ("both", "either") else bound(formula)


def reader_of(formula):
    """The least reader that takes a word exactly if the formula holds in it."""
    need_measured(formula)
    return reader_below(formula)
