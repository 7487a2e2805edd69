"""Which kinds an ask can miss, with which numbers, and with which marks it reaches a kind."""

from firstletter.errors import Missed
from firstletter.helpers import ascending
from firstletter.planruns import run_for
from firstletter.plans import closed_within, has_room, leavings, least_plan, near_in, rows_behind, uses_in, widest_pairs
from firstletter.runs import check_marks, check_setting
from firstletter.webparts import can_send, form_of, names_of, number_of, table_of


def check_kind(web, kind):
    """NotUsable for any value that is no name of a kind of the web."""
    form_of(web, kind)


def has_others(web, numbers, kind):
    """Whether there are stores of this kind other than the asking one."""
    return kind != web[1] or number_of(web, numbers, kind) >= 2


def plans_without(web, marks, kinds):
    """All closed plans in which none of these kinds is near."""
    pairs = [pair for pair in widest_pairs(web, marks, ()) if not leads_to(web, pair, kinds)]
    if not all([pair in pairs for pair in least_plan(web, marks)]):
        return []
    return closed_within(web, marks, pairs)


def leads_to(web, pair, kinds):
    """Whether a pair leads to one of these kinds."""
    return any([kind in kinds for kind in table_of(web, pair[0])])


def plan_without(web, numbers, marks, kinds):
    """A closed plan that fits and in which none of these kinds is near; None if there is none."""
    for plan in plans_without(web, marks, kinds):
        if has_room(web, numbers, plan):
            return plan
    return None


def missing_plan(web, numbers, marks, kind):
    """A closed plan that fits and misses the kind; None if the kind cannot be missed."""
    return plan_without(web, numbers, marks, (kind,)) if has_others(web, numbers, kind) else None


def can_miss(web, numbers, marks, kind):
    """Whether the kind can be missed."""
    check_setting(web, numbers, marks)
    check_kind(web, kind)
    return missing_plan(web, numbers, marks, kind) is not None


def missed_kinds(web, numbers, marks):
    """The set of the kinds that can be missed."""
    check_setting(web, numbers, marks)
    return tuple([kind for kind in names_of(web) if missing_plan(web, numbers, marks, kind) is not None])


def are_at_least(numbers, least):
    """Whether each of these numbers is at least the other one in its place."""
    return all([many >= few for many, few in zip(numbers, least)])


def needs_of(web, plan, kind):
    """The least numbers with which a closed plan that misses the kind, or one with the same near kinds, fits."""
    # If the plan lacks a use of the asker's kind, it fits just one store of it. But with a pair more of this kind,
    # which leads where the asker's pair does, it fits any more of them: so its uses are all that counts.
    needs = [max(1, many) for many in uses_in(web, plan)]
    if kind == web[1]:
        needs[names_of(web).index(kind)] = 2
    return tuple(needs)


def least_numbers(web, marks, kind):
    """The set of the least numbers with which the kind can be missed."""
    check_marks(marks)
    check_kind(web, kind)
    needs = ascending([needs_of(web, plan, kind) for plan in plans_without(web, marks, (kind,))])
    return tuple([row for row in needs if not any([row != other and are_at_least(row, other) for other in needs])])


def missing_run(web, numbers, marks, kind):
    """A run that is over and misses all stores of the kind but the asking one; None if there is none."""
    check_setting(web, numbers, marks)
    check_kind(web, kind)
    plan = missing_plan(web, numbers, marks, kind)
    return None if plan is None else run_for(web, numbers, marks, plan)


def first_marks(web, numbers, marks, kind):
    """The set of the marks with which stores of the kind take the ask in runs that are over; or Missed."""
    run = missing_run(web, numbers, marks, kind)
    if run is not None:
        raise Missed(run, kind)
    if not has_others(web, numbers, kind):
        return ()
    plans = closed_within(web, marks, widest_pairs(web, marks, ()))
    fitting = [plan for plan in plans if has_room(web, numbers, plan)]
    return ascending([mark for plan in fitting for mark in marks_at(web, numbers, plan, kind)])


def marks_at(web, numbers, plan, kind):
    """The marks with which stores of the kind, but for the asking one, take the ask in runs with this plan."""
    # A mark that is not passed on needs a store that is not needed for a pair of the plan.
    is_spare = number_of(web, uses_in(web, plan), kind) < number_of(web, numbers, kind)
    left = [pair for pair in leavings(web, plan) if pair[0] == kind]
    return [pair[1] for pair in left if pair in plan or (is_spare and not can_send(web, kind, pair[1]))]


def missable_kinds(web, numbers, takings):
    """The set of the kinds of which a store is missed in some run that goes on behind these takings and is over."""
    names = names_of(web)
    taken = [store[0] for store, _ in takings]
    spare = tuple([number - taken.count(kind) for kind, number in zip(names, numbers)])
    senders = ascending([(store[0], mark) for store, mark in takings if can_send(web, store[0], mark)])
    return tuple([kind for kind, many in zip(names, spare) if many > 0 and can_end(web, spare, senders, kind)])


def can_end(web, spare, senders, kind):
    """Whether a run with these pairs of senders, and so many stores to come, can go on to its end without this kind."""
    # No letter came yet to a store that did not take the ask, so each sender there is can still be its parent.
    most = tuple([used + many for used, many in zip(uses_in(web, senders), spare)])
    found = {senders: True}
    fresh = [senders]
    while len(fresh) > 0:
        row = fresh.pop()
        if kind in near_in(web, row):
            continue
        if is_end(web, spare, row):
            return True
        for more in rows_behind(web, most, row):
            if more not in found:
                found[more] = True
                fresh.append(more)
    return False


def is_end(web, spare, row):
    """Whether all stores to come of near kinds can take the ask with marks that bring no pair more to a row."""
    left = leavings(web, row)
    settled = [kind for kind, mark in left if (kind, mark) in row or not can_send(web, kind, mark)]
    return all([kind in settled or number_of(web, spare, kind) == 0 for kind, _ in left])
