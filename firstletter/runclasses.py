"""Runs as objects that never change."""

from firstletter.errors import InvalidPaper, InvalidText, NotUsable
from firstletter.helpers import ascending
from firstletter.kinds import is_letter, is_number
from firstletter.runs import check_setting, follow, missed_after
from firstletter.webreadings import pair_read
from firstletter.webtexts import pair_text


def letter_read(word):
    """The letter that a word writes; None if it writes none."""
    sender, _, store = word.partition(">")
    letter = (pair_read(sender), pair_read(store))
    return None if None in letter else letter


def letters_read(text):
    """The tuple of letters that a string writes, which may be no run; InvalidText for any other string."""
    if text == "":
        return ()
    letters = []
    for k, word in enumerate(text.split(" ")):
        letter = letter_read(word)
        if letter is None:
            raise InvalidText(0, k)
        letters.append(letter)
    return tuple(letters)


class Run:
    """A run of a web, numbers and marks; + gives the one with a letter more."""

    def __init__(self, web, numbers, marks, letters=()):
        check_setting(web, numbers, marks)
        try:
            taken, parents, waiting = follow(web, numbers, marks, letters)
        except InvalidPaper:
            raise NotUsable("letters", -1) from None
        self._setting = (web, numbers, marks)
        self._letters = letters
        self._waiting = ascending(waiting)
        self._takings = ascending([(store, taken[store]) for store in taken])
        self._tree = ascending([(store, parents[store]) for store in parents])

    @property
    def made(self):
        return self._letters

    @property
    def waiting_now(self):
        return self._waiting

    @property
    def takings_now(self):
        return self._takings

    @property
    def missed_now(self):
        web, numbers, marks = self._setting
        return missed_after(web, numbers, marks, self._letters)

    @property
    def tree_now(self):
        return self._tree

    @property
    def over_now(self):
        return len(self._waiting) == 0

    def __add__(self, other):
        # A bool is equal to a number of Python, so the form of the letter is looked at first.
        if not is_letter(other) or other not in self._waiting:
            raise NotUsable("letter", -1)
        web, numbers, marks = self._setting
        return Run(web, numbers, marks, (*self._letters, other))

    def __getitem__(self, k):
        if not is_number(k) or k >= len(self._letters):
            raise NotUsable("k", -1)
        return self._letters[k]

    def __contains__(self, thing):
        return is_letter(thing) and thing in self._letters

    def __len__(self):
        return len(self._letters)

    def __iter__(self):
        return iter(self._letters)

    def __eq__(self, other):
        return isinstance(other, Run) and self._setting == other._setting and self._letters == other._letters

    def __le__(self, other):
        if not isinstance(other, Run):
            return NotImplemented
        return self._setting == other._setting and self._letters == other._letters[:len(self._letters)]

    def __ge__(self, other):
        if not isinstance(other, Run):
            return NotImplemented
        return other <= self

    def __str__(self):
        return " ".join([f"{pair_text(sender)}>{pair_text(store)}" for sender, store in self._letters])

    @classmethod
    def read(cls, web, numbers, marks, text):
        """The Run that a string writes."""
        check_setting(web, numbers, marks)
        if not isinstance(text, str):
            raise NotUsable("text", -1)
        return cls(web, numbers, marks, letters_read(text))
