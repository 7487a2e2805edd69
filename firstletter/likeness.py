"""Webs that miss alike."""

from firstletter.errors import NotUsable
from firstletter.helpers import ascending
from firstletter.kinds import is_web
from firstletter.misses import least_numbers
from firstletter.runs import check_marks
from firstletter.webparts import names_of


def are_alike(web, other, marks):
    """Whether both webs have the same names of kinds, and for each of them the same least numbers."""
    return parting_kind(web, other, marks) is None


def parting_kind(web, other, marks):
    """The least name that is a kind of just one of both webs, or has unlike least numbers; None if they are alike."""
    if not is_web(other):
        raise NotUsable("other", -1)
    check_marks(marks)
    for kind in ascending([*names_of(web), *names_of(other)]):
        if kind not in names_of(web) or kind not in names_of(other):
            return kind
        if least_numbers(web, marks, kind) != least_numbers(other, marks, kind):
            return kind
    return None
