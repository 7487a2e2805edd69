"""Which kinds lie near, and the best marks of the letters to them."""

from firstletter.plans import leavings, least_plan
from firstletter.runs import check_marks
from firstletter.webparts import can_send, names_of


def best_marks(web, marks):
    """For each kind the greatest mark that a letter to one of its stores has in some run; -1 if there is none."""
    check_marks(marks)
    best = {kind: -1 for kind in names_of(web)}
    senders = list(least_plan(web, marks))
    # Only better marks are sent on, so this takes no longer with great marks.
    while len(senders) > 0:
        left = leavings(web, senders)
        senders = []
        for kind, mark in left:
            if mark > best[kind]:
                best[kind] = mark
                if can_send(web, kind, mark):
                    senders.append((kind, mark))
    return tuple([best[kind] for kind in names_of(web)])


def near_of(web, marks):
    """The set of the kinds that lie near."""
    best = best_marks(web, marks)
    return tuple([kind for kind, mark in zip(names_of(web), best) if mark >= 0])
