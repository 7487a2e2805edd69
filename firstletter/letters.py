"""How many letters an ask brings: at most, at least, and in one run."""

from firstletter.counts import summed, worth_of
from firstletter.helpers import ascending
from firstletter.misses import are_at_least
from firstletter.plans import closed_within, least_plan, near_in, quiet_in, uses_in, widest_pairs
from firstletter.reach import best_marks
from firstletter.runs import check_marks, check_setting, follow_made
from firstletter.webparts import can_send, names_of, table_of


def terms_of(web, whole, few):
    """The terms of the count of the letters if all stores of the whole kinds send, and of the others so few."""
    terms = []
    for kind, many in zip(names_of(web), few):
        names, factor = ((kind,), 1) if kind in whole else ((), many)
        for other in table_of(web, kind):
            terms.append((with_name(names, other), factor))
            # No store sends to itself.
            if other == kind:
                terms.append((names, -factor))
    return summed(terms)


def with_name(names, other):
    """The names of a product of an unknown, or none, and another one."""
    return (other, *names) if (other,) < names else (*names, other)


def most_letters(web, marks):
    """The terms of the count of the most letters that are sent in a run."""
    best = best_marks(web, marks)
    whole = [kind for kind, mark in zip(names_of(web), best) if can_send(web, kind, mark)]
    return terms_of(web, whole, uses_in(web, least_plan(web, marks)))


def least_count(web, plan):
    """The pair of the numbers and the terms of a closed plan: if as few stores send as can be."""
    quiet = quiet_in(web, plan)
    whole = [kind for kind in near_in(web, plan) if kind not in quiet]
    uses = uses_in(web, plan)
    return tuple([max(1, many) for many in uses]), terms_of(web, whole, uses)


def least_counts(web, marks):
    """The set of the pairs (numbers, terms) of all closed plans."""
    check_marks(marks)
    return ascending([least_count(web, plan) for plan in closed_within(web, marks, widest_pairs(web, marks, ()))])


def least_letters(web, numbers, marks):
    """The least number of letters that are sent in a run that is over."""
    check_setting(web, numbers, marks)
    known = {kind: number for kind, number in zip(names_of(web), numbers)}
    counts = [terms for least, terms in least_counts(web, marks) if are_at_least(numbers, least)]
    return ascending([worth_of(terms, known) for terms in counts])[0]


def letters_of(web, numbers, marks, made):
    """How many letters are sent in the run, those on their way among them."""
    _, _, waiting = follow_made(web, numbers, marks, made)
    return len(made) + len(waiting)
