"""Webs, kinds and numbers read from texts."""

from firstletter.errors import InvalidText
from firstletter.helpers import is_figures, is_number_word
from firstletter.kinds import is_name, is_table

KIND_WORDS = 5


def table_read(word):
    """The tuple of names that a word of a table writes; a set only if the word can stand."""
    return () if word == "-" else tuple(word.split(","))


def can_stand(k, word):
    """Whether this word can be word k of the line of a kind."""
    if k == 0:
        return word == "kind"
    if k == 1:
        return is_name(word)
    if k == 2:
        return is_figures(word)
    if k == 3:
        return word in ("has", "not")
    return k == 4 and is_table(table_read(word))


def kind_read(text, *, line=0, field=0):
    """The kind by form that a string writes; InvalidText with this line, and a field counted from this one."""
    words = text.split(" ")
    for k, word in enumerate(words):
        if not can_stand(k, word):
            raise InvalidText(line, field + k)
    if len(words) < KIND_WORDS:
        raise InvalidText(line, field + len(words))
    _, name, fee, has, table = words
    return name, int(fee), has == "has", table_read(table)


def is_numbers_word(word):
    """Whether a word writes a nonempty tuple of integers from 1 on."""
    return all([is_figures(part) for part in word.split(",")])


def numbers_read(text, *, line=0, field=0):
    """The nonempty tuple of integers from 1 on that a string writes; InvalidText as in kind_read."""
    words = text.split(" ")
    if not is_numbers_word(words[0]):
        raise InvalidText(line, field)
    if len(words) > 1:
        raise InvalidText(line, field + 1)
    return tuple([int(part) for part in words[0].split(",")])


def asker_read(text, line):
    """The name in the line of the asker, of which word 0 is right."""
    words = text.split(" ")
    if len(words) < 2 or not is_name(words[1]):
        raise InvalidText(line, 1)
    if len(words) > 2:
        raise InvalidText(line, 2)
    return words[1]


def web_read(text):
    """The pair of kinds and asker that a string writes, which may be no web."""
    # The empty string has no line; taken as one empty line, it has the same error.
    lines = text.split("\n")
    kinds = []
    for k, row in enumerate(lines):
        if row.split(" ")[0] == "asker":
            asker = asker_read(row, k)
            if k + 1 < len(lines):
                raise InvalidText(k + 1, 0)
            return tuple(kinds), asker
        kinds.append(kind_read(row, line=k))
    raise InvalidText(len(lines), 0)


def pair_read(word):
    """The pair of a name and a number that a word writes; None if it writes none."""
    name, _, figures = word.partition(":")
    if not is_name(name) or not is_number_word(figures):
        return None
    return name, int(figures)
