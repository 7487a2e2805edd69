"""Runs: letters that come one after another, and what is after them."""

from firstletter.errors import InvalidPaper, NotUsable
from firstletter.helpers import ascending, is_pair
from firstletter.kinds import is_number, is_store
from firstletter.webparts import can_send, check_numbers, fee_of, has_of, names_of, number_of, stores_of, stores_of_kind
from firstletter.webparts import table_of


def check_marks(marks):
    """NotUsable for marks that are no number."""
    if not is_number(marks):
        raise NotUsable("marks", -1)


def check_setting(web, numbers, marks):
    """NotUsable for numbers that are no numbers of the web, then for marks that are no number."""
    check_numbers(web, numbers)
    check_marks(marks)


def asking_store(web):
    """The store that takes the ask first."""
    return (web[1], 0)


def is_store_of(web, numbers, thing):
    """Whether any value is a store of the web with these numbers."""
    if not is_store(thing) or thing[0] not in names_of(web):
        return False
    return thing[1] < number_of(web, numbers, thing[0])


def are_two_stores(web, numbers, thing):
    """Whether any value is a pair of two stores, or of one twice."""
    return is_pair(thing) and is_store_of(web, numbers, thing[0]) and is_store_of(web, numbers, thing[1])


def sent_to(web, numbers, store, mark):
    """The stores to which this one sends when it takes the ask with this mark, ascending."""
    if not can_send(web, store[0], mark):
        return []
    return [other for kind in table_of(web, store[0]) for other in stores_of_kind(web, numbers, kind) if other != store]


def follow(web, numbers, marks, thing):
    """After a run: the marks taken by store, the parents by store, the letters on their way; else InvalidPaper."""
    if not isinstance(thing, tuple):
        raise InvalidPaper("shape", -1)
    asking = asking_store(web)
    taken = {asking: marks}
    parents = {}
    waiting = {(asking, other): True for other in sent_to(web, numbers, asking, marks)}
    for k, letter in enumerate(thing):
        if not are_two_stores(web, numbers, letter):
            raise InvalidPaper("letter", k)
        if letter not in waiting:
            raise InvalidPaper("way", k)
        del waiting[letter]
        sender, store = letter
        if store not in taken:
            parents[store] = sender
            taken[store] = taken[sender] - fee_of(web, sender[0])
            for other in sent_to(web, numbers, store, taken[store]):
                waiting[(store, other)] = True
    return taken, parents, waiting


def follow_made(web, numbers, marks, made):
    """What follow returns; NotUsable for the first argument that is not as it has to be."""
    check_setting(web, numbers, marks)
    try:
        return follow(web, numbers, marks, made)
    except InvalidPaper:
        raise NotUsable("made", -1) from None


def is_run(web, numbers, marks, thing):
    """Whether any value is a run."""
    try:
        lets_run(web, numbers, marks, thing)
    except InvalidPaper:
        return False
    return True


def lets_run(web, numbers, marks, thing):
    """How many letters of a run came; InvalidPaper for any value that is no run."""
    check_setting(web, numbers, marks)
    follow(web, numbers, marks, thing)
    return len(thing)


def waiting_after(web, numbers, marks, made):
    """The set of the letters on their way after the run."""
    _, _, waiting = follow_made(web, numbers, marks, made)
    return ascending(waiting)


def takings_after(web, numbers, marks, made):
    """The set of the pairs (store, mark) of the stores that took the ask."""
    taken, _, _ = follow_made(web, numbers, marks, made)
    return ascending([(store, taken[store]) for store in taken])


def missed_after(web, numbers, marks, made):
    """The set of the stores that did not take the ask, whether the run is over or not."""
    taken, _, _ = follow_made(web, numbers, marks, made)
    return tuple([store for store in stores_of(web, numbers) if store not in taken])


def is_over(web, numbers, marks, made):
    """Whether no letter is on its way after the run."""
    _, _, waiting = follow_made(web, numbers, marks, made)
    return len(waiting) == 0


def has_found(web, numbers, marks, made):
    """Whether a store took the ask that has the thing."""
    taken, _, _ = follow_made(web, numbers, marks, made)
    return any([has_of(web, store[0]) for store in taken])
