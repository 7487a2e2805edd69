"""Which values are integers, names, kinds by form, webs, stores, letters and events."""

from firstletter.helpers import is_pair


def is_integer(thing):
    """Whether any value is an int that is not a bool."""
    return isinstance(thing, int) and not isinstance(thing, bool)


def is_number(thing):
    """Whether any value is an integer that is at least 0."""
    return is_integer(thing) and thing >= 0


def is_positive(thing):
    """Whether any value is an integer from 1 on: a fee, or how many stores a kind has."""
    return is_integer(thing) and thing >= 1


def is_name(thing):
    """Whether any value is a string of one to eight lowercase letters."""
    if not isinstance(thing, str) or len(thing) > 8:
        return False
    return thing.isascii() and thing.isalpha() and thing.islower()


def is_table(thing):
    """Whether any value is a set of names."""
    if not isinstance(thing, tuple):
        return False
    for k, name in enumerate(thing):
        if not is_name(name):
            return False
        if k > 0 and thing[k - 1] >= name:
            return False
    return True


def is_kind(thing):
    """Whether any value is a kind by form, whatever the names in its table."""
    if not isinstance(thing, tuple) or len(thing) != 4:
        return False
    name, fee, has, table = thing
    return is_name(name) and is_positive(fee) and isinstance(has, bool) and is_table(table)


def wrong_kind(kinds):
    """The first index of no kind by form, or of none with a greater name than the one before; or None."""
    for i, kind in enumerate(kinds):
        if not is_kind(kind):
            return i
        if i > 0 and kinds[i - 1][0] >= kind[0]:
            return i
    return None


def wrong_table(kinds):
    """The first index of a kind whose table names another one than these kinds by form; or None."""
    known = {kind[0]: True for kind in kinds}
    for i, kind in enumerate(kinds):
        if not all([name in known for name in kind[3]]):
            return i
    return None


def is_asker(kinds, thing):
    """Whether any value is the name of one of these kinds by form that has not the thing."""
    return any([kind[0] == thing and not kind[2] for kind in kinds])


def is_web(thing):
    """Whether any value is a web."""
    if not is_pair(thing) or not isinstance(thing[0], tuple):
        return False
    kinds, asker = thing
    if wrong_kind(kinds) is not None or wrong_table(kinds) is not None:
        return False
    return is_asker(kinds, asker)


def is_store(thing):
    """Whether any value is a pair of a name and a number."""
    return is_pair(thing) and is_name(thing[0]) and is_number(thing[1])


def is_letter(thing):
    """Whether any value is a pair of two stores by form, or of one twice."""
    return is_pair(thing) and is_store(thing[0]) and is_store(thing[1])


def is_guard(thing):
    """Whether any value is a word for a guard."""
    return isinstance(thing, str) and thing in ("on", "off")


def is_event(thing):
    """Whether any value is an event by form."""
    if not isinstance(thing, tuple) or len(thing) == 0:
        return False
    if thing[0] == "came":
        return is_letter(thing[1:])
    if thing[0] == "guard":
        return len(thing) == 2 and is_guard(thing[1])
    return thing[0] == "note" and len(thing) == 2 and is_name(thing[1])
