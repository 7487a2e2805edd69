"""Pairs of a kind and a mark, plans of such pairs, and which plans are closed."""

from firstletter.errors import InvalidPaper, NotUsable
from firstletter.helpers import ascending
from firstletter.kinds import is_store
from firstletter.runs import check_marks, check_setting
from firstletter.webparts import can_send, fee_of, names_of, number_of, table_of


def is_pair_of(web, marks, thing):
    """Whether any value is a pair of web and marks: a kind that has not the thing, and a mark with which it sends."""
    # By form, such a pair is what a store is: a name and a number.
    if not is_store(thing) or thing[0] not in names_of(web):
        return False
    return thing[1] <= marks and can_send(web, thing[0], thing[1])


def leavings(web, pairs):
    """For each kind to which one of these pairs leads, this kind and the mark that the pair leaves there."""
    return [(kind, mark - fee_of(web, name)) for name, mark in pairs for kind in table_of(web, name)]


def least_plan(web, marks):
    """The plan within which no other one lies: the asker's pair alone, or none with marks below the asker's fee."""
    return ((web[1], marks),) if can_send(web, web[1], marks) else ()


def followers(web, plan):
    """The pairs that can be added to a plan: one of its own leads there, and leaves just their mark."""
    found = ascending(leavings(web, plan))
    return tuple([pair for pair in found if pair not in plan and can_send(web, pair[0], pair[1])])


def rows_behind(web, numbers, plan):
    """A plan with each of the pairs that can be added to it, if there is a store for this pair, too."""
    uses = uses_in(web, plan)
    pairs = [pair for pair in followers(web, plan)
             if number_of(web, uses, pair[0]) < number_of(web, numbers, pair[0])]
    return [ascending([*plan, pair]) for pair in pairs]


def widest_pairs(web, marks, without):
    """The set of the pairs that come, again and again, behind the least plan, none of a kind in without."""
    found = {pair: True for pair in least_plan(web, marks)}
    fresh = list(found)
    while len(fresh) > 0:
        fresh = [pair for pair in followers(web, fresh) if pair not in found and pair[0] not in without]
        for pair in fresh:
            found[pair] = True
    return ascending(found)


def check_plan(web, marks, thing):
    """InvalidPaper for any value that is no plan."""
    if not isinstance(thing, tuple):
        raise InvalidPaper("shape", -1)
    for k, pair in enumerate(thing):
        if not is_pair_of(web, marks, pair) or (k > 0 and pair <= thing[k - 1]):
            raise InvalidPaper("pair", k)
    first = (web[1], marks)
    led = {row: True for row in leavings(web, thing)}
    for k, pair in enumerate(thing):
        if pair != first and pair not in led:
            raise InvalidPaper("led", k)
    if can_send(web, web[1], marks) and first not in thing:
        raise InvalidPaper("first", -1)


def is_plan_of(web, marks, thing):
    """Whether any value is a plan; marks are a number."""
    try:
        check_plan(web, marks, thing)
    except InvalidPaper:
        return False
    return True


def check_made_plan(web, marks, plan):
    """NotUsable for marks that are no number, then for a plan that is none of web and marks."""
    check_marks(marks)
    if not is_plan_of(web, marks, plan):
        raise NotUsable("plan", -1)


def kinds_in(plan):
    """The set of the kinds of a plan."""
    return ascending([name for name, _ in plan])


def near_in(web, plan):
    """The set of the near kinds of a plan."""
    return ascending([kind for kind, _ in leavings(web, plan)])


def quiet_in(web, plan):
    """The set of the near kinds that are quiet in a plan."""
    # A kind that has the thing never sends, so this tells of both grounds on which a near kind is quiet.
    return ascending([kind for kind, mark in leavings(web, plan) if not can_send(web, kind, mark)])


def uses_in(web, plan):
    """The tuple of the uses of all kinds of the web."""
    return tuple([len([pair for pair in plan if pair[0] == kind]) for kind in names_of(web)])


def open_kind(web, plan):
    """The index of the first kind that is near, not quiet, and none of the plan's kinds; None if it is closed."""
    near, quiet, kinds = near_in(web, plan), quiet_in(web, plan), kinds_in(plan)
    for i, kind in enumerate(names_of(web)):
        if kind in near and kind not in quiet and kind not in kinds:
            return i
    return None


def has_stores(web, numbers, plan):
    """Whether no kind has more uses in a plan than stores."""
    return all([many <= number for many, number in zip(uses_in(web, plan), numbers)])


def has_room(web, numbers, plan):
    """Whether a plan fits numbers."""
    if not has_stores(web, numbers, plan):
        return False
    asker = web[1]
    if number_of(web, numbers, asker) == 1 or number_of(web, uses_in(web, plan), asker) >= 2:
        return True
    return asker not in near_in(web, plan) or asker in quiet_in(web, plan)


def closed_within(web, marks, pairs):
    """All closed plans that consist of some of these pairs, among which those of the least plan are."""
    plans = [least_plan(web, marks)]
    # A pair is led by greater marks alone: with those first, each plan comes of one that is there already.
    falling = ascending([(left, name) for name, left in pairs])[::-1]
    for mark, kind in falling:
        pair = (kind, mark)
        leaders = [other for other in pairs if pair in leavings(web, [other])]
        plans = plans + [(*plan, pair) for plan in plans if any([other in plan for other in leaders])]
    return [ascending(plan) for plan in plans if open_kind(web, plan) is None]


def pairs_of(web, marks):
    """The set of all pairs that are in some plan."""
    check_marks(marks)
    return widest_pairs(web, marks, ())


def is_plan(web, marks, thing):
    """Whether any value is a plan."""
    check_marks(marks)
    return is_plan_of(web, marks, thing)


def kinds_of(web, marks, plan):
    """The set of the kinds of a plan."""
    check_made_plan(web, marks, plan)
    return kinds_in(plan)


def near_kinds(web, marks, plan):
    """The set of the kinds to which a pair of the plan leads."""
    check_made_plan(web, marks, plan)
    return near_in(web, plan)


def quiet_kinds(web, marks, plan):
    """The set of the near kinds that are quiet in a plan."""
    check_made_plan(web, marks, plan)
    return quiet_in(web, plan)


def uses_of(web, marks, plan):
    """The tuple of the uses of all kinds of the web, in their order."""
    check_made_plan(web, marks, plan)
    return uses_in(web, plan)


def is_closed(web, marks, plan):
    """Whether each near kind of a plan is quiet or one of its kinds."""
    check_made_plan(web, marks, plan)
    return open_kind(web, plan) is None


def fits(web, numbers, marks, plan):
    """Whether a plan, closed or not, fits numbers."""
    check_setting(web, numbers, marks)
    check_made_plan(web, marks, plan)
    return has_room(web, numbers, plan)


def closed_plans(web, marks):
    """The set of all closed plans."""
    check_marks(marks)
    return ascending(closed_within(web, marks, widest_pairs(web, marks, ())))
