"""Names, and the kept words, which are no names."""

KEPT = (
    "ahead", "all", "apart", "bare", "both", "dense", "down", "either", "finite", "first", "last",
    "next", "not", "one", "same", "scattered", "some", "sub", "well",
)
LETTERS_OF_NAMES = "abcdefghijklmnopqrstuvwxyz"


def is_name(thing):
    """Whether any value is a name: 1 to 8 letters a to z, no kept word."""
    if not isinstance(thing, str) or not 1 <= len(thing) <= 8 or thing in KEPT:
        return False
    return all(sign in LETTERS_OF_NAMES for sign in thing)
