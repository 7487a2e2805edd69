"""Events and logs read from lines."""

from firstletter.errors import InvalidText
from firstletter.helpers import is_number_word
from firstletter.kinds import is_name
from firstletter.webreadings import is_numbers_word, numbers_read, web_read

FIRST_WORDS = 5
CAME_WORDS = 5
OTHER_WORDS = 2


def can_tell(words, k):
    """Whether word k of the line of an event can stand, if those before it can."""
    word = words[k]
    if k == 0:
        return word in ("came", "guard", "note")
    if words[0] == "guard":
        return k == 1 and word in ("on", "off")
    if words[0] == "note":
        return k == 1 and is_name(word)
    if k in (1, 3):
        return is_name(word)
    return k in (2, 4) and is_number_word(word)


def event_read(text, line):
    """The event that a string writes; InvalidText with this line for any other string."""
    words = text.split(" ")
    for k in range(len(words)):
        if not can_tell(words, k):
            raise InvalidText(line, k)
    many = CAME_WORDS if words[0] == "came" else OTHER_WORDS
    if len(words) < many:
        raise InvalidText(line, len(words))
    if words[0] != "came":
        return words[0], words[1]
    _, sender, i, store, j = words
    return "came", (sender, int(i)), (store, int(j))


def read_event(text):
    """The event that a string writes."""
    return event_read(text, 0)


def can_begin(k, word):
    """Whether this word can be word k of the first line of a log."""
    if k == 0:
        return word == "live"
    if k == 1:
        return word in ("on", "off")
    if k == 3:
        return is_numbers_word(word)
    return k in (2, 4) and is_number_word(word)


def first_read(text):
    """The words of the first line of a log: guard, marks, numbers, and how many lines of the web follow."""
    words = text.split(" ")
    for k, word in enumerate(words):
        if not can_begin(k, word):
            raise InvalidText(0, k)
    if len(words) < FIRST_WORDS:
        raise InvalidText(0, len(words))
    _, guard, marks, numbers, many = words
    return guard, int(marks), numbers_read(numbers), int(many)


def rows_read(rows):
    """The pair of kinds and asker that the lines of a web write, which stand behind the first line of a log."""
    try:
        return web_read("\n".join(rows))
    except InvalidText as error:
        raise InvalidText(error.line + 1, error.field) from None


def read_log(lines):
    """The log that a list of strings without newlines writes."""
    if len(lines) == 0:
        raise InvalidText(0, 0)
    guard, marks, numbers, many = first_read(lines[0])
    rows = lines[1:many + 1]
    web = rows_read(rows)
    if len(rows) < many:
        raise InvalidText(len(rows) + 1, 0)
    events = [event_read(text, many + 1 + k) for k, text in enumerate(lines[many + 1:])]
    return (("live", web, numbers, marks, guard), *events)
