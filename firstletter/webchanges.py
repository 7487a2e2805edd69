"""Changes of webs: each function returns the changed web, and all else remains."""

from firstletter.errors import NotUsable
from firstletter.helpers import ascending
from firstletter.kinds import is_kind, is_name, is_positive
from firstletter.webchecker import lets_web
from firstletter.webparts import form_of, names_of


def with_kind(web, kind):
    """The web with this kind by form, too; its name is none of the web's."""
    if not is_kind(kind) or kind[0] in names_of(web):
        raise NotUsable("kind", -1)
    kinds, asker = web
    changed = (ascending([*kinds, kind]), asker)
    lets_web(changed)
    return changed


def without_kind(web, kind):
    """The web without this kind, and without its name in all tables; it is not the asker's."""
    kinds, asker = web
    if form_of(web, kind)[0] == asker:
        raise NotUsable("kind", -1)
    return tuple([without_name(row, kind) for row in kinds if row[0] != kind]), asker


def without_name(row, other):
    """This kind by form without the other one's name in its table."""
    name, fee, has, table = row
    return name, fee, has, tuple([entry for entry in table if entry != other])


def with_arrow(web, kind, other):
    """The web with the other kind in the table of this one, too."""
    name, fee, has, table = form_of(web, kind)
    if other not in names_of(web) or other in table:
        raise NotUsable("other", -1)
    return with_row(web, (name, fee, has, ascending([*table, other])))


def without_arrow(web, kind, other):
    """The web without the other kind in the table of this one."""
    row = form_of(web, kind)
    if other not in row[3]:
        raise NotUsable("other", -1)
    return with_row(web, without_name(row, other))


def with_fee(web, kind, fee):
    """The web in which this kind has this fee."""
    name, _, has, table = form_of(web, kind)
    if not is_positive(fee):
        raise NotUsable("fee", -1)
    return with_row(web, (name, fee, has, table))


def with_has(web, kind, has):
    """The web in which this kind has the thing or not; the asker's kind cannot have it."""
    name, fee, _, table = form_of(web, kind)
    if not isinstance(has, bool) or (has and name == web[1]):
        raise NotUsable("has", -1)
    return with_row(web, (name, fee, has, table))


def with_row(web, row):
    """The web with this kind by form in the place of that with its name."""
    kinds, asker = web
    return tuple([row if old[0] == row[0] else old for old in kinds]), asker


def asked_by(web, kind):
    """The web in which the asker is of this kind, which has not the thing."""
    name, _, has, _ = form_of(web, kind)
    if has:
        raise NotUsable("kind", -1)
    return web[0], name


def renamed(web, kind, name):
    """The web in which this kind is called name, everywhere."""
    old = form_of(web, kind)[0]
    if not is_name(name) or (name != old and name in names_of(web)):
        raise NotUsable("name", -1)
    kinds, asker = web
    changed = [renamed_row(row, old, name) for row in kinds]
    return ascending(changed), (name if asker == old else asker)


def renamed_row(row, old, name):
    """This kind by form with the new name in the place of the old one."""
    own, fee, has, table = row
    names = [name if entry == old else entry for entry in table]
    return (name if own == old else own), fee, has, ascending(names)
