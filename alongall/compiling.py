"""Readers of formulas."""

from alongall.atoms import atom_reader
from alongall.changing import widened_to
from alongall.combining import both_of, contrary_of, either_of
from alongall.formulas import JOINTS, need_measured
from alongall.hiding import hidden_from
from alongall.scopes import scope_of


def combined(formula):
    """The reader of both or either of two formulas."""
    one = reader_below(formula[1])
    other = reader_below(formula[2])
    scope = scope_of(one[1] + other[1])
    one = widened_to(one, scope)
    other = widened_to(other, scope)
    return both_of(one, other) if formula[0] == "both" else either_of(one, other)


def bound(formula):
    """The reader of some or all of a formula."""
    head, name, part = formula
    reader = reader_below(part)
    if name not in reader[1]:
        return reader
    if head == "some":
        return hidden_from(reader, name)
    return contrary_of(hidden_from(contrary_of(reader), name))


def reader_below(formula):
    """What reader_of tells of what is a long formula."""
    head = formula[0]
    if head not in JOINTS:
        return atom_reader(formula)
    if head == "not":
        return contrary_of(reader_below(formula[1]))
    return combined(formula) if head in ("both", "either") else bound(formula)


def reader_of(formula):
    """The least reader that takes a word exactly if the formula holds in it."""
    need_measured(formula)
    return reader_below(formula)
