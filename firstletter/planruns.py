"""Plans of runs that are over, and closed trees of plans."""

from firstletter.errors import NotUsable
from firstletter.helpers import ascending
from firstletter.plans import has_room, is_plan_of, kinds_in, leavings, open_kind
from firstletter.runs import asking_store, check_setting, follow_made
from firstletter.trees import run_of_tree
from firstletter.webparts import can_send, stores_of_kind


def plan_of(web, numbers, marks, made):
    """The set of the pairs (kind, mark) of all senders of a run that is over."""
    taken, _, waiting = follow_made(web, numbers, marks, made)
    if len(waiting) > 0:
        raise NotUsable("made", -1)
    takings = [(store[0], taken[store]) for store in taken]
    return ascending([(kind, mark) for kind, mark in takings if can_send(web, kind, mark)])


def tree_of_plan(web, numbers, marks, plan):
    """A closed tree of which the senders have just the pairs of a closed plan that fits."""
    check_setting(web, numbers, marks)
    if not is_plan_of(web, marks, plan) or open_kind(web, plan) is not None or not has_room(web, numbers, plan):
        raise NotUsable("plan", -1)
    return tree_for(web, numbers, plan)


def holders_of(plan):
    """For each pair of a plan a store that is to have it, no store for two."""
    holders = {}
    for kind in kinds_in(plan):
        # The asker's pair has the greatest mark of all, so the asking store, which has the index 0, gets just it.
        own = [pair for pair in plan if pair[0] == kind]
        for i, pair in enumerate(own[::-1]):
            holders[pair] = (kind, i)
    return holders


def tree_for(web, numbers, plan):
    """A closed tree for a closed plan that fits."""
    holders = holders_of(plan)
    held = {holders[pair]: pair for pair in plan}
    parents = {row: holders[pair] for pair in plan for row in leavings(web, [pair])}
    # The stores of a kind that hold no pair take the ask with a mark that brings no pair more.
    others = {row[0]: row for row in parents if row in plan or not can_send(web, row[0], row[1])}
    stores = [store for kind in others for store in stores_of_kind(web, numbers, kind)]
    asking = asking_store(web)
    return ascending([(store, parents[held.get(store, others[store[0]])]) for store in stores if store != asking])


def run_for(web, numbers, marks, plan):
    """A run that is over, of which the senders have just the pairs of a closed plan that fits."""
    return run_of_tree(web, numbers, marks, tree_for(web, numbers, plan))
