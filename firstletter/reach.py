"""Which kinds lie near, and the best marks of the letters to them."""

from firstletter.helpers import ascending
from firstletter.plans import leavings, widest_pairs
from firstletter.runs import check_marks
from firstletter.webparts import names_of


def best_marks(web, marks):
    """For each kind the greatest mark that a letter to one of its stores has in some run; -1 if there is none."""
    check_marks(marks)
    left = leavings(web, widest_pairs(web, marks, ()))
    return tuple([best_mark(left, kind) for kind in names_of(web)])


def best_mark(left, kind):
    """The greatest mark that is left at this kind; -1 if there is none."""
    found = [mark for other, mark in left if other == kind]
    return ascending([-1, *found])[-1]


def near_of(web, marks):
    """The set of the kinds that lie near."""
    best = best_marks(web, marks)
    return tuple([kind for kind, mark in zip(names_of(web), best) if mark >= 0])
