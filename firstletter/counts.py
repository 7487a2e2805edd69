"""Counts: polynomials whose unknowns are the numbers of the kinds."""

from firstletter.errors import InvalidText, NotUsable
from firstletter.helpers import ascending, is_figures, is_pair
from firstletter.kinds import is_integer, is_name, is_positive


def are_unknowns(thing):
    """Whether any value is a tuple of at most two names, the lesser one first."""
    if not isinstance(thing, tuple) or len(thing) > 2:
        return False
    if not all([is_name(name) for name in thing]):
        return False
    return len(thing) < 2 or thing[0] <= thing[1]


def is_term(thing):
    """Whether any value is a term: names, and an integer that is not 0."""
    return is_pair(thing) and are_unknowns(thing[0]) and is_integer(thing[1]) and thing[1] != 0


def is_count(thing):
    """Whether any value is an ascending tuple of terms with different names."""
    if not isinstance(thing, tuple):
        return False
    for k, term in enumerate(thing):
        if not is_term(term) or (k > 0 and term[0] <= thing[k - 1][0]):
            return False
    return True


def is_named_number(thing):
    """Whether any value is a pair of a name and an integer from 1 on."""
    return is_pair(thing) and is_name(thing[0]) and is_positive(thing[1])


def summed(terms):
    """The terms of the sum of terms, of which several may have the same names, and coefficients may be 0."""
    sums = {}
    for names, coefficient in terms:
        sums[names] = sums.get(names, 0) + coefficient
    return ascending([(names, sums[names]) for names in sums if sums[names] != 0])


def worth_of(terms, numbers):
    """The sum of terms, with the number that each name has in a dict."""
    total = 0
    for names, coefficient in terms:
        part = coefficient
        for name in names:
            part = part * numbers[name]
        total = total + part
    return total


def term_read(text):
    """The term that a string writes; None if it writes none."""
    figures, *names = text.split("*")
    if not is_figures(figures.removeprefix("-")) or not are_unknowns(tuple(names)):
        return None
    return tuple(names), int(figures)


def terms_read(text):
    """The terms of the count that a string writes; InvalidText for any other string."""
    if text == "0":
        return ()
    terms = []
    for k, part in enumerate(text.split(" + ")):
        term = term_read(part)
        if term is None or (k > 0 and term[0] <= terms[k - 1][0]):
            raise InvalidText(0, k)
        terms.append(term)
    return tuple(terms)


def term_text(term):
    """A term as a string: the coefficient, then the names, each with * in front."""
    names, coefficient = term
    return "*".join([str(coefficient), *names])


class Count:
    """A count; its operators return new ones."""

    def __init__(self, terms=()):
        if not is_count(terms):
            raise NotUsable("terms", -1)
        self._terms = terms

    @property
    def terms(self):
        return self._terms

    @property
    def names(self):
        return ascending([name for names, _ in self._terms for name in names])

    def __len__(self):
        return len(self._terms)

    def __add__(self, other):
        if is_integer(other):
            return Count(summed([*self._terms, ((), other)]))
        if not isinstance(other, Count):
            raise NotUsable("other", -1)
        return Count(summed([*self._terms, *other._terms]))

    def __mul__(self, other):
        if not is_integer(other):
            raise NotUsable("other", -1)
        return Count(summed([(names, coefficient * other) for names, coefficient in self._terms]))

    def __eq__(self, other):
        return isinstance(other, Count) and self._terms == other._terms

    def worth(self, *pairs):
        """The worth, if each name has the number that is paired with it."""
        numbers = {}
        for k, pair in enumerate(pairs):
            if not is_named_number(pair) or pair[0] in numbers:
                raise NotUsable("pairs", k)
            numbers[pair[0]] = pair[1]
        if not all([name in numbers for name in self.names]):
            raise NotUsable("pairs", -1)
        return worth_of(self._terms, numbers)

    def __str__(self):
        if len(self._terms) == 0:
            return "0"
        return " + ".join([term_text(term) for term in self._terms])

    @classmethod
    def parsed(cls, text):
        """The Count that a string writes."""
        if not isinstance(text, str):
            raise NotUsable("text", -1)
        return cls(terms_read(text))

    @staticmethod
    def unknown(name):
        """The Count of one unknown."""
        if not is_name(name):
            raise NotUsable("name", -1)
        return Count((((name,), 1),))
