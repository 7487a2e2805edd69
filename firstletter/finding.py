"""Whether an ask is sure to find a store that has the thing."""

from firstletter.misses import plan_without
from firstletter.planruns import run_for
from firstletter.runs import check_setting
from firstletter.webparts import has_of, names_of


def failing_plan(web, numbers, marks):
    """A closed plan that fits and has only near kinds that have not the thing; None if there is none."""
    check_setting(web, numbers, marks)
    holders = [kind for kind in names_of(web) if has_of(web, kind)]
    return plan_without(web, numbers, marks, holders)


def is_surely_found(web, numbers, marks):
    """Whether the ask is found in each run that is over."""
    return failing_plan(web, numbers, marks) is None


def failing_run(web, numbers, marks):
    """A run that is over in which the ask is not found; None if there is none."""
    plan = failing_plan(web, numbers, marks)
    return None if plan is None else run_for(web, numbers, marks, plan)
