"""Live webs made of logs."""

from firstletter.errors import NotUsable
from firstletter.kinds import is_event, is_guard, is_number, is_web
from firstletter.lives import Live
from firstletter.webparts import are_numbers


def is_beginning(thing):
    """Whether any value is the first element of a log, of which a Live can be made."""
    if not isinstance(thing, tuple) or len(thing) != 5 or thing[0] != "live":
        return False
    _, web, numbers, marks, guard = thing
    return is_web(web) and are_numbers(web, numbers) and is_number(marks) and is_guard(guard)


def is_log(thing):
    """Whether any value is a log: its first element, then events by form, possible or not."""
    if not isinstance(thing, tuple) or len(thing) == 0 or not is_beginning(thing[0]):
        return False
    return all([is_event(event) for event in thing[1:]])


def replayed(log):
    """A new live web after the events of a log."""
    if not is_log(log):
        raise NotUsable("log", -1)
    _, web, numbers, marks, guard = log[0]
    live = Live(web, numbers, marks, guard=guard)
    for event in log[1:]:
        live._applied(event)
    return live
