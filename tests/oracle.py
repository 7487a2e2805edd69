"""Runs and trees word by word as the definitions have them, with no thought of speed."""

from itertools import product

from tests.examples import ALIKE, ALONE, MIXED, NEAR, RING

HAVING = ((('a', 1, False, ('a', 'b')), ('b', 2, True, ('a', 'b')),), 'a')
CHAIN = ((('a', 2, False, ('c',)), ('b', 1, False, ()), ('c', 1, False, ('a', 'b', 'c'))), 'a')

# Webs, numbers and marks with few runs.
SETTINGS = (
    *[(NEAR, (1, 1, 1, 1), marks) for marks in range(5)],
    (NEAR, (2, 1, 1, 1), 2), (NEAR, (1, 2, 1, 1), 2), (NEAR, (1, 1, 2, 1), 3), (NEAR, (1, 1, 1, 2), 2),
    *[(RING, (1, 1, 1, 1), marks) for marks in range(5)],
    *[(ALIKE, (1,), marks) for marks in range(4)], *[(ALIKE, (2,), marks) for marks in range(4)],
    (ALIKE, (3,), 1), (ALIKE, (3,), 2), (ALIKE, (3,), 3), (ALIKE, (4,), 1),
    *[(MIXED, (1, 1, 1), marks) for marks in range(8)], (MIXED, (2, 1, 1), 3), (MIXED, (1, 2, 1), 2),
    *[(ALONE, (1,), marks) for marks in range(4)], (ALONE, (3,), 5),
    *[(HAVING, (1, 1), marks) for marks in range(4)], (HAVING, (2, 1), 1), (HAVING, (1, 2), 3), (HAVING, (2, 1), 2),
    *[(CHAIN, (1, 1, 1), marks) for marks in range(6)], (CHAIN, (1, 1, 2), 3), (CHAIN, (2, 1, 1), 4),
)


def row_of(web, name):
    return {row[0]: row for row in web[0]}[name]


def all_stores(web, numbers):
    return sorted((row[0], i) for row, number in zip(web[0], numbers) for i in range(number))


def sends(web, store, mark, other):
    """Whether a store that took the ask with this mark sends to this one."""
    _, fee, has, table = row_of(web, store[0])
    return not has and mark >= fee and other[0] in table and other != store


def after(web, numbers, marks, run):
    """The marks taken, the parents, and the letters on their way after a run; None if it is no run."""
    taken, parents = {(web[1], 0): marks}, {}
    for k in range(len(run) + 1):
        waiting = sorted((store, other) for store in taken for other in all_stores(web, numbers)
                         if sends(web, store, taken[store], other) and (store, other) not in run[:k])
        if k == len(run):
            return taken, parents, waiting
        if run[k] not in waiting:
            return None
        store, other = run[k]
        if other not in taken:
            taken[other] = taken[store] - row_of(web, store[0])[1]
            parents[other] = store


def all_runs(web, numbers, marks, most):
    """Runs, each with all of its beginnings; at most so many that are over, the first ones and the last ones first."""
    found, over = {}, 0
    queue = [((), True)]
    while queue and over < most:
        run, upward = queue.pop()
        if run in found:
            continue
        found[run] = after(web, numbers, marks, run)
        waiting = found[run][2]
        over += not waiting
        order = waiting if upward else waiting[::-1]
        queue.extend((run + (letter,), not upward) for letter in order)
    return found


def pairs_above(pairs, web, store):
    """The stores above this one, up to the asking one; None if the parents do not lead there."""
    parents, above = dict(pairs), []
    while store != (web[1], 0):
        if store not in parents or len(above) > len(pairs):
            return None
        store = parents[store]
        above.append(store)
    return above


def fault_of_tree(web, numbers, marks, pairs):
    """The first entry of the list of lets_tree, from "parent" on, that applies to these pairs of stores; or None."""
    above = [pairs_above(pairs, web, store) for store, _ in pairs]
    for k, stores in enumerate(above):
        if stores is None:
            return 'parent', k
    left = {(web[1], 0): marks}
    for (store, _), stores in zip(pairs, above):
        left[store] = marks - sum(row_of(web, other[0])[1] for other in stores)
    for k, (store, parent) in enumerate(pairs):
        if not sends(web, parent, left[parent], store):
            return 'send', k
    for k, store in enumerate([(web[1], 0)] + [store for store, _ in pairs], -1):
        for other in all_stores(web, numbers):
            if sends(web, store, left[store], other) and other not in left:
                return 'open', k
    return None


def all_pairings(web, numbers):
    """All sets of pairs (store, parent) of stores with each store but the asking one first at most once."""
    stores = all_stores(web, numbers)
    others = [store for store in stores if store != (web[1], 0)]
    for parents in product([None] + stores, repeat=len(others)):
        yield tuple((store, parent) for store, parent in zip(others, parents) if parent is not None)
