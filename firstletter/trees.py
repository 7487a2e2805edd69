"""Trees of runs: whose letter each store took, and which trees are closed."""

from firstletter.errors import InvalidPaper, NotUsable
from firstletter.helpers import ascending
from firstletter.runs import are_two_stores, asking_store, check_setting, follow_made, sent_to, waiting_after
from firstletter.webparts import fee_of


def tree_of(web, numbers, marks, made):
    """The set of the pairs (store, parent) of the run, whether it is over or not."""
    _, parents, _ = follow_made(web, numbers, marks, made)
    return ascending([(store, parents[store]) for store in parents])


def lets_tree(web, numbers, marks, thing):
    """How many pairs a closed tree has; InvalidPaper for any value that is none."""
    check_setting(web, numbers, marks)
    check_pairs(web, numbers, thing)
    left = marks_left(web, marks, thing)
    for k, (store, _) in enumerate(thing):
        if store not in left:
            raise InvalidPaper("parent", k)
    for k, (store, parent) in enumerate(thing):
        if store not in sent_to(web, numbers, parent, left[parent]):
            raise InvalidPaper("send", k)
    asking = asking_store(web)
    for k, store in enumerate([asking, *[pair[0] for pair in thing]], start=-1):
        if any([other not in left for other in sent_to(web, numbers, store, left[store])]):
            raise InvalidPaper("open", k)
    return len(thing)


def check_pairs(web, numbers, thing):
    """InvalidPaper for any value that is no tuple of pairs of stores, ascending by different first ones."""
    if not isinstance(thing, tuple):
        raise InvalidPaper("shape", -1)
    for k, pair in enumerate(thing):
        if not are_two_stores(web, numbers, pair) or pair[0] == asking_store(web):
            raise InvalidPaper("store", k)
        if k > 0 and pair[0] <= thing[k - 1][0]:
            raise InvalidPaper("twice", k)


def marks_left(web, marks, pairs):
    """The marks, by store, that remain of marks below all fees above it, each store behind its parent."""
    left = {asking_store(web): marks}
    # Each round reaches at least one more store, if parents lead from one to the asking store at all.
    for _ in pairs:
        for store, parent in pairs:
            if parent in left:
                left[store] = left[parent] - fee_of(web, parent[0])
    return left


def run_of_tree(web, numbers, marks, tree):
    """A run that is over and has this closed tree: each store takes its parent's letter, then the rest falls."""
    try:
        lets_tree(web, numbers, marks, tree)
    except InvalidPaper:
        raise NotUsable("tree", -1) from None
    parents = {store: parent for store, parent in tree}
    order = [store for store in marks_left(web, marks, tree) if store in parents]
    letters = tuple([(parents[store], store) for store in order])
    return letters + waiting_after(web, numbers, marks, letters)
