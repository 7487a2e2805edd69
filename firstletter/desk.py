"""A desk: what is said to it, row by row, goes to a live web, and is answered with a string."""

from firstletter.errors import InvalidRow, InvalidText
from firstletter.eventreadings import read_event, read_log
from firstletter.eventtexts import event_line
from firstletter.helpers import is_number_word
from firstletter.kinds import is_name
from firstletter.lives import Live
from firstletter.webtexts import web_text


def joined(words):
    """Several things with single spaces between, and - for nothing."""
    return " ".join(words) if len(words) > 0 else "-"


def one_text(thing):
    """One thing, and - for None."""
    return "-" if thing is None else str(thing)


def store_text(store):
    """A store as one word."""
    name, i = store
    return f"{name}@{i}"


def stores_text(stores):
    """Stores as words."""
    return joined([store_text(store) for store in stores])


def letters_text(letters):
    """Letters as words."""
    return joined([f"{store_text(sender)}@{store_text(store)}" for sender, store in letters])


def undo_answer(live):
    return event_line(live.undo())


def events_answer(live):
    return str(len(live))


def log_answer(live):
    return str(live)


def guard_answer(live):
    return live.guard_now


def found_answer(live):
    return "yes" if live.found_now else "no"


def run_answer(live):
    return letters_text(live.run_now)


def waiting_answer(live):
    return letters_text(live.waiting_now)


def poor_answer(live):
    return letters_text(live.poor_now)


def next_answer(live):
    return letters_text(live.next_now)


def falls_answer(live):
    return joined([str(k) for k in live.falls])


def takings_answer(live):
    return joined([f"{store_text(store)}@{mark}" for store, mark in live.takings_now])


def missed_answer(live):
    return stores_text(live.missed_now)


def missable_answer(live):
    return joined(live.missable())


def table_answer(live):
    return " / ".join(live.table())


def web_answer(live):
    _, web, _, _, _ = live.log()[0]
    return " / ".join(web_text(web).split("\n"))


ANSWERS = {
    "undo": undo_answer, "events": events_answer, "log": log_answer, "guard": guard_answer, "found": found_answer,
    "run": run_answer, "waiting": waiting_answer, "poor": poor_answer, "next": next_answer, "falls": falls_answer,
    "takings": takings_answer, "missed": missed_answer, "missable": missable_answer, "table": table_answer,
    "web": web_answer,
}


def beginning_of(row):
    """The first element of the log of which a row has the lines, and no others; None if it has not."""
    try:
        log = read_log(row.split("\n"))
    except InvalidText:
        return None
    return log[0] if len(log) == 1 else None


def event_of(row):
    """The event of which a row is the line; None if it is none."""
    try:
        return read_event(row)
    except InvalidText:
        return None


def answer_to(live, row):
    """What a live web answers to a row; None if the row is not possible."""
    if row in ANSWERS:
        action = ANSWERS[row]
        return action(live)
    event = event_of(row)
    if event is not None:
        return one_text(live.go(event))
    word, _, rest = row.partition(" ")
    if word == "bars":
        event = event_of(rest)
        return None if event is None else one_text(live.barred(event))
    name, _, figures = rest.partition(" ")
    if word == "mark" and is_name(name) and is_number_word(figures):
        return one_text(live[(name, int(figures))])
    if word == "since" and is_name(rest):
        return stores_text(live.taken_since(rest))
    if word == "then" and is_name(rest):
        return letters_text(live.waiting_then(rest))
    return None


class Desk:
    """A desk, at first without a live web."""

    def __init__(self):
        self._live = None
        self._calls = 0

    def say(self, row):
        """The answer to a row; InvalidRow if it is not possible."""
        self._calls = self._calls + 1
        beginning = beginning_of(row)
        if beginning is not None:
            _, web, numbers, marks, guard = beginning
            self._live = Live(web, numbers, marks, guard=guard)
            return "ok"
        answer = None if self._live is None else answer_to(self._live, row)
        if answer is None:
            raise InvalidRow(row)
        return answer

    def tally(self):
        """How many calls of say were started, and how many finished."""
        # A call of say never calls it again, so both numbers are one.
        return self._calls, self._calls
