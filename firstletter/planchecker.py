"""The checker of closed plans."""

from firstletter.errors import InvalidPaper
from firstletter.plans import check_plan, open_kind
from firstletter.runs import check_marks


def lets_plan(web, marks, thing):
    """How many pairs a closed plan has; InvalidPaper for any value that is none."""
    check_marks(marks)
    check_plan(web, marks, thing)
    at = open_kind(web, thing)
    if at is not None:
        raise InvalidPaper("open", at)
    return len(thing)
