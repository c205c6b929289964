"""Texts of weaves."""

from alongall.errors import BadText, BadWeave
from alongall.reading import Reading
from alongall.scopes import need_scope
from alongall.weaves import MOST_DEEP, MOST_NODES, is_weave, need_weave

BEGINNINGS = {"n": "none", "o": "on", "b": "back", "m": "mix"}


def text_under(weave):
    """The text of what is a weave."""
    head = weave[0]
    if head == "none":
        return head
    if head == "letter":
        return "[" + ",".join(weave[1]) + "]"
    if head == "then":
        return "(" + text_under(weave[1]) + " " + text_under(weave[2]) + ")"
    if head == "mix":
        return "mix(" + ",".join([text_under(part) for part in weave[1]]) + ")"
    return head + "(" + text_under(weave[1]) + ")"


def weave_text(scope, weave):
    """The text of the weave."""
    need_weave(scope, weave)
    return text_under(weave)


def read_one_of(reading, names):
    """Goes over one of some names, or as far as one of them goes, and tells it."""
    start = reading.at
    while True:
        word = reading.text[start:reading.at]
        more = reading.sign()
        if more == "" or not any(name.startswith(word + more) for name in names):
            break
        reading.at = reading.at + 1
    if word not in names:
        reading.fail()
    return word


def read_letter(reading, scope):
    """The letter of the text from here on; its names come in the order of the scope."""
    reading.take("[")
    names = []
    left = scope
    if reading.sign() != "]":
        names.append(read_one_of(reading, left))
        left = scope[scope.index(names[-1]) + 1:]
    while reading.sign() == "," and len(left) > 0:
        reading.take(",")
        names.append(read_one_of(reading, left))
        left = scope[scope.index(names[-1]) + 1:]
    reading.take("]")
    return ("letter", tuple(names))


def read_parts(reading, scope, deep):
    """The parts of a mix, as many as there are."""
    parts = [read_weave(reading, scope, deep)]
    while reading.sign() == ",":
        reading.grow(1)
        reading.take(",")
        parts.append(read_weave(reading, scope, deep))
    return tuple(parts)


def read_weave(reading, scope, deep):
    """The tree of the text from here on, as far as it goes, at most so deep."""
    sign = reading.sign()
    if sign == "[":
        return read_letter(reading, scope)
    if sign == "n":
        reading.take("none")
        return ("none",)
    if deep < 2 or (sign != "(" and sign not in BEGINNINGS):
        reading.fail()
    if sign == "(":
        reading.grow(2)
        reading.take("(")
        one = read_weave(reading, scope, deep - 1)
        reading.take(" ")
        other = read_weave(reading, scope, deep - 1)
        reading.take(")")
        return ("then", one, other)
    reading.grow(1)
    head = BEGINNINGS[sign]
    reading.take(head + "(")
    part = read_parts(reading, scope, deep - 1) if head == "mix" else read_weave(reading, scope, deep - 1)
    reading.take(")")
    return (head, part)


def weave_of(scope, text):
    """The weave of the scope with this text."""
    need_scope(scope)
    if not isinstance(text, str):
        raise BadText(0)
    reading = Reading(text, MOST_NODES)
    tree = read_weave(reading, scope, MOST_DEEP)
    reading.end()
    if not is_weave(scope, tree):
        raise BadWeave("parts of a mix do not ascend")
    return tree
