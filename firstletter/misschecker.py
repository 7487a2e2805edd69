"""The checker of papers of what is missed."""

from firstletter.errors import InvalidPaper
from firstletter.helpers import is_pair
from firstletter.misses import check_kind, has_others
from firstletter.plans import has_room, is_plan_of, least_plan, near_in, open_kind, rows_behind
from firstletter.runs import check_setting


def lets_miss(web, numbers, marks, kind, thing):
    """Whether the kind can be missed, as a paper states it; InvalidPaper for any value that is no such paper."""
    check_setting(web, numbers, marks)
    check_kind(web, kind)
    if is_pair(thing) and thing[0] == "missed":
        check_missed(web, numbers, marks, kind, thing[1])
        return True
    if not is_pair(thing) or thing[0] != "reached" or not isinstance(thing[1], tuple):
        raise InvalidPaper("shape", -1)
    check_rows(web, marks, thing[1])
    if has_others(web, numbers, kind):
        check_reached(web, numbers, marks, kind, thing[1])
    elif len(thing[1]) > 0:
        raise InvalidPaper("first", -1)
    return False


def check_missed(web, numbers, marks, kind, plan):
    """InvalidPaper for any value that is no closed plan that fits and misses the kind."""
    if not is_plan_of(web, marks, plan):
        raise InvalidPaper("plan", -1)
    if open_kind(web, plan) is not None:
        raise InvalidPaper("open", -1)
    if not has_room(web, numbers, plan):
        raise InvalidPaper("fits", -1)
    if kind in near_in(web, plan) or not has_others(web, numbers, kind):
        raise InvalidPaper("near", -1)


def check_rows(web, marks, rows):
    """InvalidPaper for rows that are not ascending plans."""
    for k, row in enumerate(rows):
        if not is_plan_of(web, marks, row) or (k > 0 and row <= rows[k - 1]):
            raise InvalidPaper("row", k)


def check_reached(web, numbers, marks, kind, rows):
    """InvalidPaper for plans that do not show that the kind is near in each closed plan that fits."""
    known = {row: True for row in rows}
    if least_plan(web, marks) not in known:
        raise InvalidPaper("first", -1)
    for k, row in enumerate(rows):
        if kind not in near_in(web, row):
            if open_kind(web, row) is None and has_room(web, numbers, row):
                raise InvalidPaper("fits", k)
            if not all([more in known for more in rows_behind(web, numbers, row)]):
                raise InvalidPaper("way", k)
