"""Runs that are led by hand."""

from firstletter.errors import NothingToUndo, NotUsable
from firstletter.runclasses import Run
from firstletter.runs import is_run


class Kept:
    """A Run that a trial has to bring back, and what it kept before."""

    def __init__(self, run, before):
        self.run = run
        self.before = before


class Trial:
    """What stands behind with: a walker's run is brought back at the end of the block."""

    def __init__(self, walker):
        self._walker = walker
        self._kept = None

    def __enter__(self):
        # One trial may be entered again within its own block, so each entry remembers the one around it.
        self._kept = Kept(self._walker._run, self._kept)
        return self._walker

    def __exit__(self, kind, value, trace):
        walker = self._walker
        walker._run = self._kept.run
        self._kept = self._kept.before


class Walker:
    """A run that is led by hand, at first the empty one."""

    def __init__(self, web, numbers, marks):
        self._run = Run(web, numbers, marks)
        self._setting = (web, numbers, marks)

    @property
    def path(self):
        return self._run.made

    @path.setter
    def path(self, value):
        self.set_made(value)

    @property
    def waiting_now(self):
        return self._run.waiting_now

    @property
    def takings_now(self):
        return self._run.takings_now

    @property
    def missed_now(self):
        return self._run.missed_now

    @property
    def tree_now(self):
        return self._run.tree_now

    @property
    def over_now(self):
        return self._run.over_now

    def go(self, letter):
        """Let a letter come; whether the ask was taken with it."""
        before = len(self._run.takings_now)
        self._run = self._run + letter
        return len(self._run.takings_now) > before

    def __iadd__(self, other):
        self.go(other)
        return self

    def finish(self):
        """Let the least letter on its way come, until the run is over; the tuple of these letters."""
        many = len(self._run)
        while not self._run.over_now:
            self._run = self._run + self._run.waiting_now[0]
        return self._run.made[many:]

    def undo(self):
        """Take the last letter of the run back, and return it."""
        made = self._run.made
        if len(made) == 0:
            raise NothingToUndo(0)
        rest = made[:-1]
        self._run = Run(*self._setting, rest)
        return made[-1]

    def set_made(self, made):
        """Let the run be another one."""
        if not is_run(*self._setting, made):
            raise NotUsable("made", -1)
        self._run = Run(*self._setting, made)

    def trial(self):
        """What stands behind with: all that is done within the block is taken back at its end."""
        return Trial(self)

    def tried(self, *letters):
        """The takings after these letters, which come in a trial only."""
        run = self._run
        for k, letter in enumerate(letters):
            try:
                run = run + letter
            except NotUsable:
                raise NotUsable("letters", k) from None
        return run.takings_now
