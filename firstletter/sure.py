"""The marks with which nobody that lies near is missed."""

from firstletter.errors import NotUsable
from firstletter.kinds import is_number
from firstletter.misses import missing_plan
from firstletter.reach import near_of
from firstletter.webparts import check_numbers


def sure_marks(web, numbers, most):
    """The set of the marks from 0 to most with which no kind that lies near can be missed."""
    check_numbers(web, numbers)
    if not is_number(most):
        raise NotUsable("most", -1)
    return tuple([marks for marks in range(most + 1) if is_sure(web, numbers, marks)])


def is_sure(web, numbers, marks):
    """Whether no kind that lies near with these marks can be missed."""
    return all([missing_plan(web, numbers, marks, kind) is None for kind in near_of(web, marks)])
