"""What several modules of the package need, and the document does not list."""

MOST_DIGITS = 60


def is_pair(thing):
    """Whether any value is a tuple of two values."""
    return isinstance(thing, tuple) and len(thing) == 2


def ascending(things):
    """The set of these things: strings, integers, or tuples that can stand in a set of Python."""
    # sorted(set(..)) and not sorted(..): a set of the document has no duplicates.
    return tuple(sorted(set(things)))


def is_figures(word):
    """Whether a string writes an integer from 1 on, with at most sixty digits and no leading zero."""
    if len(word) > MOST_DIGITS or word.startswith("0"):
        return False
    return word.isascii() and word.isdigit()


def is_number_word(word):
    """Whether a string writes a number, with at most sixty digits and no leading zero but 0 itself."""
    return word == "0" or is_figures(word)
