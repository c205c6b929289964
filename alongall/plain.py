"""Questions about values of any kind, which the tests for trees, lots and tables share."""


def is_number(thing):
    """Whether it is a whole number; True and False are none."""
    return isinstance(thing, int) and not isinstance(thing, bool)


def is_below(thing, many):
    """Whether it is a number from 0 to many - 1."""
    return is_number(thing) and 0 <= thing < many


def is_ascending(row):
    """Whether each item of a row of items that can be compared is less than the next one."""
    return all(row[at] < row[at + 1] for at in range(len(row) - 1))


def is_row_below(thing, many, long):
    """Whether it is a tuple of just so many numbers, all from 0 to many - 1."""
    if not isinstance(thing, tuple) or len(thing) != long:
        return False
    return all(is_below(item, many) for item in thing)


def is_lot_below(thing, many):
    """Whether it is an ascending tuple, perhaps (), of numbers from 0 to many - 1."""
    if not isinstance(thing, tuple) or len(thing) > many:
        return False
    return is_row_below(thing, many, len(thing)) and is_ascending(thing)


def head_of(thing):
    """The string that a tuple begins with, "" for any other value."""
    # The kind is asked first: an equality could mean anything for what is no string.
    if isinstance(thing, tuple) and len(thing) > 0 and isinstance(thing[0], str):
        return thing[0]
    return ""


def is_same(right, thing):
    """Whether any value is the same as a tree of tuples and strings."""
    # An equality could mean anything for what is of no such kind, so trees are gone through part by part.
    if isinstance(right, str):
        return isinstance(thing, str) and thing == right
    if not isinstance(thing, tuple) or len(thing) != len(right):
        return False
    return all(is_same(part, other) for part, other in zip(right, thing))
