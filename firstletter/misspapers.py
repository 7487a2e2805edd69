"""Papers of what is missed."""

from firstletter.helpers import ascending
from firstletter.misses import check_kind, has_others, missing_plan
from firstletter.plans import least_plan, near_in, rows_behind
from firstletter.runs import check_setting


def miss_paper(web, numbers, marks, kind):
    """A paper of whether the kind can be missed: ("missed", plan), or ("reached", rows)."""
    check_setting(web, numbers, marks)
    check_kind(web, kind)
    plan = missing_plan(web, numbers, marks, kind)
    if plan is not None:
        return "missed", plan
    if not has_others(web, numbers, kind):
        return "reached", ()
    return "reached", rows_until(web, numbers, marks, kind)


def rows_until(web, numbers, marks, kind):
    """The set of the plans behind the least one, by pairs for which there are stores, until the kind is near."""
    first = least_plan(web, marks)
    found = {first: True}
    fresh = [first]
    while len(fresh) > 0:
        plan = fresh.pop()
        if kind in near_in(web, plan):
            continue
        for row in rows_behind(web, numbers, plan):
            if row not in found:
                found[row] = True
                fresh.append(row)
    return ascending(found)
