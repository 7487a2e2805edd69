"""A live web: one ask, followed letter by letter."""

from firstletter.errors import InvalidEvent, NothingToUndo, NotUsable
from firstletter.eventtexts import event_line
from firstletter.kinds import is_event, is_guard, is_name
from firstletter.misses import missable_kinds
from firstletter.reach import best_marks
from firstletter.runclasses import Run
from firstletter.runs import check_setting, is_store_of
from firstletter.webchecker import lets_web
from firstletter.webparts import can_send, fee_of, has_of, names_of, stores_of


class Moment:
    """What a live web is between two events; it never changes, so to take an event back is to go back to one."""

    def __init__(self, run, guard, notes, events, before):
        self.run = run
        self.guard = guard
        self.notes = notes
        self.events = events
        self.before = before


def is_found_in(web, run):
    """Whether a store took the ask in a Run that has the thing."""
    return any([has_of(web, store[0]) for store, _ in run.takings_now])


def poor_in(web, best, run):
    """The set of the letters on their way behind a Run that are poor."""
    taken = {store: mark for store, mark in run.takings_now}
    fresh = [(sender, store) for sender, store in run.waiting_now if store not in taken]
    return tuple([(sender, store) for sender, store in fresh
                  if taken[sender] - fee_of(web, sender[0]) < best[store[0]]])


def state_word(web, kind, mark):
    """What a store of this kind does that took the ask with this mark, or with None did not take it."""
    if mark is None:
        return "-"
    if has_of(web, kind):
        return "has"
    return "sends" if can_send(web, kind, mark) else "stops"


class Live:
    """A live web: events change it, and can be taken back."""

    MOST = 40

    def __init__(self, web, numbers, marks, *, guard="off"):
        lets_web(web)
        check_setting(web, numbers, marks)
        if not is_guard(guard):
            raise NotUsable("guard", -1)
        self._web = web
        self._numbers = numbers
        self._beginning = ("live", web, numbers, marks, guard)
        self._stores = stores_of(web, numbers)
        self._best = {kind: mark for kind, mark in zip(names_of(web), best_marks(web, marks))}
        self._now = Moment(Run(web, numbers, marks), guard, {}, (), None)
        self._calls = 0

    @property
    def guard_now(self):
        return self._now.guard

    @guard_now.setter
    def guard_now(self, value):
        self.go(("guard", value))

    @property
    def run_now(self):
        return self._now.run.made

    @property
    def takings_now(self):
        return self._now.run.takings_now

    @property
    def waiting_now(self):
        return self._now.run.waiting_now

    @property
    def missed_now(self):
        return self._now.run.missed_now

    @property
    def found_now(self):
        return is_found_in(self._web, self._now.run)

    @property
    def poor_now(self):
        return poor_in(self._web, self._best, self._now.run)

    @property
    def next_now(self):
        poor = self.poor_now if self._now.guard == "on" else ()
        return tuple([letter for letter in self._now.run.waiting_now if letter not in poor])

    @property
    def falls(self):
        tree = self._now.run.tree_now
        return tuple([k for k, (sender, store) in enumerate(self._now.run.made) if (store, sender) not in tree])

    def missable(self):
        """The set of the kinds of which some store is missed in some run that begins with this one and is over."""
        return missable_kinds(self._web, self._numbers, self._now.run.takings_now)

    def _came_reason(self, now, event):
        """Why a letter cannot come at a moment; None if it can."""
        _, sender, store = event
        if sender not in self:
            return "from"
        if store not in self:
            return "to"
        letter = (sender, store)
        if letter not in now.run.waiting_now:
            return "way"
        if now.guard == "on" and letter in poor_in(self._web, self._best, now.run):
            return "poor"
        return None

    def _reason(self, now, event):
        """Why any value is not possible as an event at a moment; None if it is."""
        if not is_event(event):
            return "shape"
        if len(now.events) >= Live.MOST:
            return "full"
        if event[0] == "came":
            return self._came_reason(now, event)
        if event[0] == "guard":
            return "same" if event[1] == now.guard else None
        return "twice" if event[1] in now.notes else None

    def _behind(self, now, event):
        """The moment behind an event; InvalidEvent if it is not possible."""
        reason = self._reason(now, event)
        if reason is not None:
            raise InvalidEvent(event, reason)
        events = (*now.events, event)
        if event[0] == "came":
            return Moment(now.run + event[1:], now.guard, now.notes, events, now)
        if event[0] == "guard":
            return Moment(now.run, event[1], now.notes, events, now)
        return Moment(now.run, now.guard, {**now.notes, event[1]: now.run}, events, now)

    def _applied(self, event):
        """Apply an event, which counts as no operation of its own, and return its answer."""
        before = self._now
        self._now = self._behind(before, event)
        if len(self.takings_now) == len(before.run.takings_now):
            return None
        return self[event[2]]

    def go(self, event):
        """Apply an event, and return its answer."""
        self._calls = self._calls + 1
        return self._applied(event)

    def came(self, sender, store):
        """Let the letter of this sender to this store come."""
        return self.go(("came", sender, store))

    def set_guard(self, word):
        """Turn the guard on or off."""
        return self.go(("guard", word))

    def note(self, name):
        """Make a note of this moment."""
        return self.go(("note", name))

    def __call__(self, event):
        return self.go(event)

    def tried(self, *events):
        """The triple of takings_now, waiting_now and found_now after these events, which change nothing."""
        now = self._now
        for event in events:
            now = self._behind(now, event)
        return now.run.takings_now, now.run.waiting_now, is_found_in(self._web, now.run)

    def undo(self):
        """Take back the last event, and return it."""
        self._calls = self._calls + 1
        events = self._now.events
        if len(events) == 0:
            raise NothingToUndo(0)
        self._now = self._now.before
        return events[-1]

    def do_all(self, *events, keep=False):
        """Apply events in order, and return how many; after an error all, or with keep True the last, is taken back."""
        self._calls = self._calls + 1
        if not isinstance(keep, bool):
            raise NotUsable("keep", -1)
        now = self._now
        for event in events:
            now = self._behind(now, event)
            if keep:
                self._now = now
        self._now = now
        return len(events)

    def tally(self):
        """How many operations were started, and how many finished."""
        # None calls another one that counts, and none is left but at its end: both numbers are one.
        return self._calls, self._calls

    def barred(self, event):
        """The reason why any value is not possible as an event; None if it is."""
        return self._reason(self._now, event)

    def table(self):
        """The list of a string for each store: its name, its number, its mark, and what it does."""
        lines = []
        for kind, i in self._stores:
            mark = self[(kind, i)]
            shown = "-" if mark is None else mark
            lines.append(f"{kind:<8} {i:>2} {shown:>2} {state_word(self._web, kind, mark)}")
        return lines

    def _run_at(self, name):
        """The Run at the note with this name."""
        if not is_name(name) or name not in self._now.notes:
            raise NotUsable("name", -1)
        return self._now.notes[name]

    def taken_since(self, name):
        """The set of the stores that took the ask since the note."""
        then = self._run_at(name).missed_now
        return tuple([store for store, _ in self._now.run.takings_now if store in then])

    def waiting_then(self, name):
        """The set of the letters that were on their way at the note."""
        return self._run_at(name).waiting_now

    def log(self):
        """The tuple of how the live web began, and the events that followed."""
        return (self._beginning, *self._now.events)

    def __getitem__(self, at):
        if at not in self:
            raise NotUsable("store", -1)
        taken = {store: mark for store, mark in self._now.run.takings_now}
        return taken.get(at)

    def __contains__(self, thing):
        return is_store_of(self._web, self._numbers, thing)

    def __iter__(self):
        return iter(self._stores)

    def __len__(self):
        return len(self._now.events)

    def __eq__(self, other):
        if not isinstance(other, Live):
            return False
        return self._beginning == other._beginning and self._now.events == other._now.events

    def __str__(self):
        if len(self._now.events) == 0:
            return "-"
        return " / ".join([event_line(event) for event in self._now.events])
