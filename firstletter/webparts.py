"""The parts of a web: its kinds, their fees and tables, who sends to whom, and its stores."""

from firstletter.errors import NotUsable
from firstletter.kinds import is_positive


def names_of(web):
    """The set of the names of all kinds."""
    return tuple([row[0] for row in web[0]])


def form_of(web, kind):
    """The kind by form of this name; NotUsable for any value that is no name of a kind of the web."""
    for row in web[0]:
        if row[0] == kind:
            return row
    raise NotUsable("kind", -1)


def fee_of(web, kind):
    """The marks that a store of this kind takes off."""
    return form_of(web, kind)[1]


def has_of(web, kind):
    """Whether stores of this kind have the thing."""
    return form_of(web, kind)[2]


def table_of(web, kind):
    """The set of the names of the kinds to which this kind sends."""
    return form_of(web, kind)[3]


def senders_to(web, kind):
    """The set of the names of the kinds in whose tables this kind is."""
    name = form_of(web, kind)[0]
    return tuple([row[0] for row in web[0] if name in row[3]])


def can_send(web, kind, mark):
    """Whether a store of this kind passes an ask on that it takes with this mark."""
    _, fee, has, _ = form_of(web, kind)
    return not has and mark >= fee


def are_numbers(web, thing):
    """Whether any value is numbers of the web: for each kind, how many stores it has."""
    if not isinstance(thing, tuple) or len(thing) != len(web[0]):
        return False
    return all([is_positive(number) for number in thing])


def check_numbers(web, thing):
    """NotUsable for any value that is no numbers of the web."""
    if not are_numbers(web, thing):
        raise NotUsable("numbers", -1)


def number_of(web, numbers, kind):
    """What a tuple with a number for each kind has for this one: how many stores, or how many uses."""
    return numbers[names_of(web).index(kind)]


def stores_of_kind(web, numbers, kind):
    """The stores of one kind, ascending."""
    return [(kind, i) for i in range(number_of(web, numbers, kind))]


def stores_of(web, numbers):
    """The set of all stores; NotUsable if numbers are no numbers of the web."""
    check_numbers(web, numbers)
    return tuple([store for kind in names_of(web) for store in stores_of_kind(web, numbers, kind)])
