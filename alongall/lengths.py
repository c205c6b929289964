"""Which words of a row, one behind the other or one within the other, are taken."""

from alongall.algebras import lot_in, mask_of, worth_of
from alongall.errors import BadWeave
from alongall.mixing import Mixing
from alongall.readers import need_reader
from alongall.weaves import is_weave


def first_round(row):
    """The shortest tuple that is the row if it comes again and again."""
    for many in range(1, len(row)):
        if len(row) // many * many == len(row) and row == row[:many] * (len(row) // many):
            return row[:many]
    return row


def shortest(ahead, again):
    """The pair that tells the same endless row with the shortest ahead, then with the shortest again."""
    again = first_round(again)
    while len(ahead) > 0 and ahead[-1] == again[-1]:
        again = again[-1:] + again[:-1]
        ahead = ahead[:-1]
    return tuple(ahead), tuple(again)


def row_of_truths(signs, truths):
    """The pair for the truths of signs, the last of which is the first one that has come before."""
    at = signs.index(signs[-1])
    return shortest(truths[:at], truths[at:len(signs) - 1])


def worth_in(reader, weave):
    """The value of the weave; BadReader, BadWeave."""
    need_reader(reader)
    _, scope, algebra, starts, _ = reader
    if not is_weave(scope, weave):
        raise BadWeave("no weave of the scope of the reader")
    return worth_of(algebra, scope, starts, weave)


def repeats(reader, weave):
    """The pair for whether the word of the weave is taken no times, once, twice .. one behind the other."""
    worth = worth_in(reader, weave)
    _, _, algebra, _, taken = reader
    row = [0]
    while row[-1] not in row[:-1]:
        row.append(algebra[2][row[-1]][worth])
    return row_of_truths(row, [element in taken for element in row])


def lots_by_length(reader):
    """The lots, by their sums, of the values of all words of 0, 1, 2 .. places; the last one has come before."""
    _, _, algebra, starts, _ = reader
    mixing = Mixing(algebra)
    letters = mask_of(starts)
    row = [1]
    while row[-1] not in row[:-1]:
        row.append(mixing.products(row[-1], letters))
    return row


def lengths(reader):
    """The pair for whether some word of 0, 1, 2 .. places is taken."""
    need_reader(reader)
    row = lots_by_length(reader)
    return row_of_truths(row, [any(element in reader[4] for element in lot_in(lot)) for lot in row])


def sure_lengths(reader):
    """The pair for whether each word of 0, 1, 2 .. places is taken."""
    need_reader(reader)
    row = lots_by_length(reader)
    return row_of_truths(row, [all(element in reader[4] for element in lot_in(lot)) for lot in row])


def truths_within(reader, weave, ends):
    """Whether the weave, then what ends makes of it, again and again, are taken, up to the last change."""
    worth = worth_in(reader, weave)
    truths = []
    # Behind as many steps as there are values nothing changes any more ([76]).
    for _ in range(reader[2][1] + 1):
        truths.append(worth in reader[4])
        worth = reader[2][ends][worth]
    while len(truths) > 1 and truths[-1] == truths[-2]:
        truths.pop()
    return tuple(truths)


def powers(reader, weave):
    """Whether the weave, on of it, on of that .. are taken; the last one stays."""
    return truths_within(reader, weave, 3)


def powers_back(reader, weave):
    """Whether the weave, back of it, back of that .. are taken; the last one stays."""
    return truths_within(reader, weave, 4)
