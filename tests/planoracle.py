"""Plans, and what runs that are over can miss, word by word as the definitions have them, with no thought of speed."""

from functools import cache
from itertools import combinations, product
from random import Random

from tests.examples import ALIKE, ALONE, MIXED, NEAR, RING
from tests.oracle import CHAIN, HAVING, all_stores, row_of, sends

FREE = ((('a', 1, False, ('a', 'b')), ('b', 2, False, ('a', 'c')), ('c', 1, True, ('a', 'b', 'c'))), 'b')


def some_webs(many):
    """Webs of two or three kinds, the same ones each time."""
    chance, webs = Random(20), []
    while len(webs) < many:
        names = 'abc'[:chance.choice((2, 3, 3))]
        kinds = tuple((name, chance.choice((1, 1, 2)), chance.random() < 0.2,
                       tuple(other for other in names if chance.random() < 0.55)) for name in names)
        asker = chance.choice(names)
        if not row_of((kinds, asker), asker)[2] and row_of((kinds, asker), asker)[3]:
            webs.append((kinds, asker))
    return tuple(webs)


# Webs and marks with few subsets of all pairs.
PLANNED = (
    *[(web, marks) for web in (NEAR, RING) for marks in range(3)],
    *[(ALIKE, marks) for marks in range(7)], *[(MIXED, marks) for marks in range(6)],
    *[(ALONE, marks) for marks in range(5)], *[(HAVING, marks) for marks in range(6)],
    *[(CHAIN, marks) for marks in range(5)], *[(FREE, marks) for marks in range(6)],
    *[(web, marks) for web in some_webs(12) for marks in range(1, 4)],
)
# Webs, numbers and marks with few closed trees.
NUMBERED = (
    *[(NEAR, numbers, marks) for numbers in product((1, 2), repeat=4) if sum(numbers) < 7 for marks in range(1, 5)],
    *[(RING, numbers, marks) for numbers in product((1, 2), repeat=4) if sum(numbers) < 7 for marks in range(1, 5)],
    *[(ALIKE, (number,), marks) for number in range(1, 6) for marks in range(6)],
    *[(MIXED, numbers, marks) for numbers in product((1, 2), repeat=3) for marks in range(1, 7)],
    *[(ALONE, (number,), marks) for number in (1, 2) for marks in (1, 2, 3)],
    *[(HAVING, numbers, marks) for numbers in product((1, 2, 3), repeat=2) for marks in range(4)],
    *[(CHAIN, numbers, marks) for numbers in product((1, 2), repeat=3) if sum(numbers) < 6 for marks in range(2, 7)],
    *[(FREE, numbers, marks) for numbers in product((1, 2), repeat=3) if sum(numbers) < 6 for marks in range(2, 7)],
    *[(web, numbers, marks) for web in some_webs(25) for numbers in product((1, 2), repeat=len(web[0]))
      if sum(numbers) < 6 for marks in range(1, 5)],
)


def all_pairs(web, marks):
    """All pairs of web and marks."""
    return [(name, mark) for name, fee, has, _ in web[0] for mark in range(marks + 1) if not has and mark >= fee]


def subsets(things):
    """All sets of some of these things."""
    return [chosen for many in range(len(things) + 1) for chosen in combinations(sorted(things), many)]


def leads(web, pair, kind):
    return kind in row_of(web, pair[0])[3]


def leaves(web, pair):
    return pair[1] - row_of(web, pair[0])[1]


def is_led(web, pairs, pair):
    """Whether another one of the pairs leads to the kind of this one, and leaves there just its mark."""
    return any(other != pair and leads(web, other, pair[0]) and leaves(web, other) == pair[1] for other in pairs)


def is_a_plan(web, marks, pairs):
    """Whether some pairs of web and marks are a plan."""
    first = (web[1], marks)
    if marks < row_of(web, web[1])[1]:
        return len(pairs) == 0
    return first in pairs and all(pair == first or is_led(web, pairs, pair) for pair in pairs)


@cache
def all_plans(web, marks):
    return [pairs for pairs in subsets(all_pairs(web, marks)) if is_a_plan(web, marks, pairs)]


def names(web):
    return [row[0] for row in web[0]]


def near_kinds(web, plan):
    return tuple(kind for kind in names(web) if any(leads(web, pair, kind) for pair in plan))


def is_quiet(web, plan, kind):
    _, fee, has, _ = row_of(web, kind)
    return has or any(leads(web, pair, kind) and leaves(web, pair) < fee for pair in plan)


def quiet_kinds(web, plan):
    return tuple(kind for kind in near_kinds(web, plan) if is_quiet(web, plan, kind))


def open_kinds(web, plan):
    """The indexes of the near kinds that are neither quiet nor kinds of the plan."""
    kinds = [name for name, _ in plan]
    return [i for i, kind in enumerate(names(web))
            if kind in near_kinds(web, plan) and not is_quiet(web, plan, kind) and kind not in kinds]


def uses(web, plan):
    return tuple(sum(1 for name, _ in plan if name == kind) for kind in names(web))


def has_room(web, numbers, plan):
    """Whether a plan fits numbers."""
    for kind, many, number in zip(names(web), uses(web, plan), numbers):
        if many > number:
            return False
        if kind == web[1] and number > 1 and many < 2:
            if kind in near_kinds(web, plan) and not is_quiet(web, plan, kind):
                return False
    return True


def closed_plans(web, marks):
    return sorted(plan for plan in all_plans(web, marks) if not open_kinds(web, plan))


@cache
def grown_closed_plans(web, marks):
    """The same, where there are too many sets of pairs: plans grow from the least one, by pairs that are led."""
    found, queue = set(), [((web[1], marks),) if marks >= row_of(web, web[1])[1] else ()]
    while queue:
        plan = queue.pop()
        if plan not in found:
            found.add(plan)
            queue.extend(tuple(sorted((*plan, pair))) for pair in all_pairs(web, marks)
                         if pair not in plan and is_led(web, plan, pair))
    return sorted(plan for plan in found if not open_kinds(web, plan))


@cache
def ends(web, numbers, marks):
    """The pairs (taken, parents) of all runs that are over, each once: letters that fall change nothing of them."""
    asking = (web[1], 0)
    stores = all_stores(web, numbers)
    found, queue, over = {()}, [({asking: marks}, {})], []
    while queue:
        taken, parents = queue.pop()
        moves = [(store, other) for store in taken for other in stores
                 if other not in taken and sends(web, store, taken[store], other)]
        if not moves:
            over.append((taken, parents))
        for store, other in moves:
            key = tuple(sorted({**parents, other: store}.items()))
            if key not in found:
                found.add(key)
                mark = taken[store] - row_of(web, store[0])[1]
                queue.append(({**taken, other: mark}, {**parents, other: store}))
    return over


def senders(web, taken):
    """The set of the pairs (kind, mark) of all stores that send if they took the ask with these marks."""
    return tuple(sorted({(store[0], mark) for store, mark in taken.items()
                         if not row_of(web, store[0])[2] and mark >= row_of(web, store[0])[1]}))


def others_of(web, numbers, kind):
    """The stores of a kind, but for the asking one."""
    return [store for store in all_stores(web, numbers) if store[0] == kind and store != (web[1], 0)]


def is_missed(web, numbers, taken, kind):
    others = others_of(web, numbers, kind)
    return bool(others) and not any(store in taken for store in others)


def can_be_missed(web, numbers, marks, kind):
    """Whether some run that is over misses all stores of the kind but the asking one, if there are any."""
    return any(is_missed(web, numbers, taken, kind) for taken, _ in ends(web, numbers, marks))


def fault_of_paper(web, numbers, marks, kind, thing):
    """The first entry of the list of lets_miss that applies to any value; True or False if none does."""
    if type(thing) is not tuple or len(thing) != 2 or thing[0] not in ('missed', 'reached') or not isinstance(thing[0], str):
        return 'shape', -1
    plans = all_plans(web, marks)
    is_asker_alone = kind == web[1] and numbers[names(web).index(kind)] == 1
    if thing[0] == 'missed':
        return fault_of_missed(web, numbers, plans, kind, thing[1], is_asker_alone)
    rows = thing[1]
    if type(rows) is not tuple:
        return 'shape', -1
    for k, row in enumerate(rows):
        if repr(row) not in [repr(plan) for plan in plans] or (k > 0 and row <= rows[k - 1]):
            return 'row', k
    if is_asker_alone:
        return ('first', -1) if rows != () else False
    if min(plans, key=len) not in rows:
        return 'first', -1
    for k, row in enumerate(rows):
        if kind in near_kinds(web, row):
            continue
        if not open_kinds(web, row) and has_room(web, numbers, row):
            return 'fits', k
        if any(more not in rows for more in rows_behind(web, numbers, marks, row)):
            return 'way', k
    return False


def fault_of_missed(web, numbers, plans, kind, plan, is_asker_alone):
    if repr(plan) not in [repr(row) for row in plans]:
        return 'plan', -1
    if open_kinds(web, plan):
        return 'open', -1
    if not has_room(web, numbers, plan):
        return 'fits', -1
    if kind in near_kinds(web, plan) or is_asker_alone:
        return 'near', -1
    return True


def rows_behind(web, numbers, marks, row):
    """The row with each of the pairs that can follow it."""
    limits = dict(zip(names(web), numbers))
    return [tuple(sorted((*row, pair))) for pair in all_pairs(web, marks)
            if pair not in row and is_led(web, row, pair) and uses(web, (*row, pair))[names(web).index(pair[0])]
            <= limits[pair[0]]]


def letters_sent(web, numbers, taken):
    """How many letters the stores send that took the ask with these marks."""
    return sum(1 for store, mark in taken.items() for other in all_stores(web, numbers) if sends(web, store, mark, other))


def least_sent(web, numbers, plan):
    """How many letters are sent if as few stores send as can be, for a closed plan: by the words of [54]."""
    quiet, near = quiet_kinds(web, plan), near_kinds(web, plan)
    sent = 0
    for kind, many, number in zip(names(web), uses(web, plan), numbers):
        senders = number if kind in near and kind not in quiet else many
        for other, more in zip(names(web), numbers):
            if other in row_of(web, kind)[3]:
                sent += senders * (more - (other == kind))
    return sent


def find(web, taken):
    """Whether a store took the ask that has the thing."""
    return any(row_of(web, store[0])[2] for store in taken)
