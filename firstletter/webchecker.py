"""The checker of webs."""

from firstletter.errors import InvalidPaper
from firstletter.helpers import is_pair
from firstletter.kinds import is_asker, wrong_kind, wrong_table


def lets_web(thing):
    """How many names all tables of a web have together; InvalidPaper for any value that is no web."""
    if not is_pair(thing) or not isinstance(thing[0], tuple):
        raise InvalidPaper("shape", -1)
    kinds, asker = thing
    at = wrong_kind(kinds)
    if at is not None:
        raise InvalidPaper("kind", at)
    at = wrong_table(kinds)
    if at is not None:
        raise InvalidPaper("table", at)
    if not is_asker(kinds, asker):
        raise InvalidPaper("asker", -1)
    return sum([len(kind[3]) for kind in kinds])
