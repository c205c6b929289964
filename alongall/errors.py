"""The errors of the package: each stands directly below OrderError."""


class OrderError(ValueError):
    """What all errors of the package stand below."""


class BadAlgebra(OrderError):
    """What should be an algebra is none."""


class BadDepth(OrderError):
    """What should be a depth is none that is let through."""


class BadElement(OrderError):
    """What should be the number of an element is none."""


class BadFills(OrderError):
    """What should be fills, one for each letter, is none."""


class BadFormula(OrderError):
    """What should be a formula is none, or none of the right kind."""


class BadFull(OrderError):
    """What should be a full letter is none."""


class BadGiven(OrderError):
    """What should be given things to begin with is none."""


class BadKind(OrderError):
    """What should be a kind of orders is none."""


class BadKinds(OrderError):
    """What should be kinds, lots side by side, is none."""


class BadLetters(OrderError):
    """What should be a row of letters is none."""


class BadLoose(OrderError):
    """A rounds formula has other free names than it should have."""


class BadLot(OrderError):
    """What should be a lot is none."""


class BadMerging(OrderError):
    """What should be a merging is none."""


class BadName(OrderError):
    """What should be a name is none, or none of the right ones."""


class BadNames(OrderError):
    """What should be a tuple of names is none, or none of the right ones."""


class BadNumber(OrderError):
    """What should be a number is none that is let through."""


class BadPairs(OrderError):
    """What should be a tuple of pairs is none."""


class BadPath(OrderError):
    """What should be a path in a weave is none."""


class BadPlaced(OrderError):
    """What should be a places formula is none."""


class BadReader(OrderError):
    """What should be a reader is none."""


class BadRoad(OrderError):
    """What should be a road cannot be gone."""


class BadRounds(OrderError):
    """What should be a rounds formula is none."""


class BadScope(OrderError):
    """What should be a scope is none, or none of the right names."""


class BadSentence(OrderError):
    """What should be a sentence is none."""


class BadShort(OrderError):
    """What should be a short is none."""


class BadSpot(OrderError):
    """What should be a spot of a weave is none."""


class BadStarts(OrderError):
    """What should be starts, one for each letter, is none."""


class BadSurroundings(OrderError):
    """What should be surroundings is none."""


class BadTable(OrderError):
    """What should be a table is none."""


class BadText(OrderError):
    """What should be a text is none: at tells how far it could have been one."""

    def __init__(self, at):
        self.at = at


class BadValue(OrderError):
    """What should be a value of a word of full letters is none."""


class BadWeave(OrderError):
    """What should be a weave is none."""


class NoName(OrderError):
    """A name is needed that is not there."""

    def __init__(self, name):
        self.name = name


class NotFinite(OrderError):
    """The word has endless many places."""


class OtherScope(OrderError):
    """Two readers have unlike scopes."""


class TooMany(OrderError):
    """There would be more than there may be at most."""

    def __init__(self, most):
        self.most = most
