"""The least weaves of the elements of a reader, of the words it takes, of those that part it from another one."""

from alongall.combining import met_together
from alongall.readers import need_reader, need_readers
from alongall.weighed import first_of, weighed


def classes(reader):
    """The ascending tuple of the pairs of an element that is met and its least weave."""
    need_reader(reader)
    _, scope, algebra, starts, _ = reader
    found = weighed(algebra, scope, starts, "any")
    return tuple([(element, found[element]) for element in sorted(found)])


def least_taken(reader):
    """What some_word tells of what is a reader."""
    _, scope, algebra, starts, taken = reader
    return first_of(weighed(algebra, scope, starts, "any"), taken)


def some_word(reader):
    """The least weave that the reader takes, None if it takes none."""
    need_reader(reader)
    return least_taken(reader)


def apart(one, other):
    """The least weave that just one of the two takes, None if they are alike."""
    need_readers(one, other)
    table, starts, counts = met_together(one, other)
    found = weighed(table, one[1], starts, "any")
    return first_of(found, [place for place, count in enumerate(counts) if count == 1])
