"""All errors of the package: a base class, four families, and the errors with their fields."""


class LetterError(ValueError):
    """The base class of all errors of the package."""


class PaperError(LetterError):
    """The family of what checkers raise."""


class WebError(LetterError):
    """The family of what goes wrong with webs, and with values that belong to them."""


class LiveError(LetterError):
    """The family of what goes wrong while an ask is followed."""


class TextError(LetterError):
    """The family of what goes wrong with texts."""


class InvalidPaper(PaperError):
    """A checker does not accept a value: the word of its first entry that applies, and where."""

    def __init__(self, word, at):
        self.word = word
        self.at = at


class NotUsable(WebError):
    """An argument is not as it has to be: the name of the parameter, and where in it."""

    def __init__(self, word, at):
        self.word = word
        self.at = at


class Missed(WebError):
    """A kind can be missed: a run in which it is."""

    def __init__(self, run, kind):
        self.run = run
        self.kind = kind


class InvalidEvent(LiveError):
    """An event is not possible now: the event, and the reason."""

    def __init__(self, event, reason):
        self.event = event
        self.reason = reason


class NothingToUndo(LiveError):
    """There is no step to take back: how many steps there are."""

    def __init__(self, steps):
        self.steps = steps


class InvalidText(TextError):
    """A text writes nothing: the line and the field of the first word that cannot stand."""

    def __init__(self, line, field):
        self.line = line
        self.field = field


class InvalidRow(TextError):
    """A row is not possible at a desk: the row."""

    def __init__(self, row):
        self.row = row
