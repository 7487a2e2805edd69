"""Webs as objects that never change."""

from firstletter.errors import NotUsable
from firstletter.kinds import is_positive
from firstletter.webchanges import asked_by, renamed, with_arrow, with_fee, with_has, with_kind, without_arrow
from firstletter.webchanges import without_kind
from firstletter.webchecker import lets_web
from firstletter.webparts import form_of, names_of, table_of
from firstletter.webreadings import web_read
from firstletter.webtexts import web_text

LETTERS = "abcdefghijklmnopqrstuvwxyz"


class Web:
    """A web; its operators and methods return new ones, of this very class."""

    def __init__(self, kinds, asker):
        form = (kinds, asker)
        lets_web(form)
        self._form = form
        self._names = names_of(form)

    @property
    def kinds(self):
        return self._form[0]

    @property
    def asker(self):
        return self._form[1]

    @property
    def form(self):
        return self._form

    def __getitem__(self, kind):
        return form_of(self._form, kind)

    def __contains__(self, thing):
        return thing in self._names

    def __len__(self):
        return len(self._names)

    def __iter__(self):
        return iter(self._names)

    def __call__(self, kind):
        return table_of(self._form, kind)

    def __eq__(self, other):
        return isinstance(other, Web) and self._form == other._form

    def __str__(self):
        return str(web_text(self._form))

    def __add__(self, other):
        kinds, asker = with_kind(self._form, other)
        return Web(kinds, asker)

    def __sub__(self, other):
        kinds, asker = without_kind(self._form, other)
        return Web(kinds, asker)

    def sending(self, kind, other):
        """The Web with an arrow more."""
        kinds, asker = with_arrow(self._form, kind, other)
        return Web(kinds, asker)

    def sparing(self, kind, other):
        """The Web with an arrow less."""
        kinds, asker = without_arrow(self._form, kind, other)
        return Web(kinds, asker)

    def costing(self, kind, fee):
        """The Web in which this kind has this fee."""
        kinds, asker = with_fee(self._form, kind, fee)
        return Web(kinds, asker)

    def holding(self, kind, has):
        """The Web in which this kind has the thing or not."""
        kinds, asker = with_has(self._form, kind, has)
        return Web(kinds, asker)

    def asking(self, kind):
        """The Web in which the asker is of this kind."""
        kinds, asker = asked_by(self._form, kind)
        return Web(kinds, asker)

    def calling(self, kind, name):
        """The Web in which this kind has this name."""
        kinds, asker = renamed(self._form, kind, name)
        return Web(kinds, asker)

    @classmethod
    def parsed(cls, text):
        """The Web that a string writes."""
        kinds, asker = web_read(text)
        return Web(kinds, asker)

    @staticmethod
    def plain(*fees):
        """The Web of a row of kinds a, b, c and so on with these fees, each sending to the next one."""
        for k, fee in enumerate(fees):
            if k == len(LETTERS) or not is_positive(fee):
                raise NotUsable("fees", k)
        if len(fees) == 0:
            raise NotUsable("fees", -1)
        names = LETTERS[:len(fees)]
        kinds = [(names[k], fee, False, tuple(names[k + 1:k + 2])) for k, fee in enumerate(fees)]
        return Web(tuple(kinds), names[0])


class Dearer(Web):
    """A web in which each fee is greater than in its source."""

    def __init__(self, web, *, by=1):
        if not is_positive(by):
            raise NotUsable("by", -1)
        kinds = [(name, fee + by, has, table) for name, fee, has, table in web.kinds]
        super().__init__(tuple(kinds), web.asker)
        self._source = web

    @property
    def source(self):
        return self._source


class Emptied(Web):
    """A web in which some kinds that have the thing in its source have it not."""

    def __init__(self, web, *names):
        for k, name in enumerate(names):
            if name not in web or not web[name][2]:
                raise NotUsable("names", k)
        kinds = [(name, fee, has and name not in names, table) for name, fee, has, table in web.kinds]
        super().__init__(tuple(kinds), web.asker)
        self._source = web

    @property
    def source(self):
        return self._source
