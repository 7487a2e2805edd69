"""Plans as objects that never change."""

from firstletter.errors import InvalidText, NotUsable
from firstletter.helpers import ascending
from firstletter.kinds import is_number, is_store, is_table
from firstletter.plans import followers, has_room, is_plan_of, kinds_in, least_plan, near_in, open_kind, quiet_in
from firstletter.plans import uses_in, widest_pairs
from firstletter.runs import check_marks
from firstletter.webparts import check_numbers, names_of
from firstletter.webreadings import pair_read
from firstletter.webtexts import pair_text


def pairs_read(text):
    """The tuple of pairs that a string writes, which may be no plan; InvalidText for any other string."""
    words = text.split(" ")
    if words[0] == "-" and len(words) == 1:
        return ()
    if words[0] == "-":
        raise InvalidText(0, 1)
    pairs = []
    for k, word in enumerate(words):
        pair = pair_read(word)
        if pair is None or (k > 0 and pair <= pairs[k - 1]):
            raise InvalidText(0, k)
        pairs.append(pair)
    return tuple(pairs)


def can_leave_out(web, thing):
    """Whether any value is a set of names of kinds of the web without the asker."""
    if not is_table(thing):
        return False
    return all([name in names_of(web) and name != web[1] for name in thing])


class Plan:
    """A plan of web and marks; its operators return new ones."""

    def __init__(self, web, marks, pairs):
        check_marks(marks)
        if not is_plan_of(web, marks, pairs):
            raise NotUsable("pairs", -1)
        self._web = web
        self._setting = (web, marks)
        self._pairs = pairs

    @property
    def web(self):
        return self._web

    @property
    def marks(self):
        return self._setting[1]

    @property
    def pairs(self):
        return self._pairs

    @property
    def kinds(self):
        return kinds_in(self._pairs)

    @property
    def near(self):
        return near_in(self._web, self._pairs)

    @property
    def quiet(self):
        return quiet_in(self._web, self._pairs)

    @property
    def uses(self):
        return uses_in(self._web, self._pairs)

    @property
    def is_closed(self):
        return open_kind(self._web, self._pairs) is None

    def fits(self, numbers):
        """Whether the plan fits numbers."""
        check_numbers(self._web, numbers)
        return has_room(self._web, numbers, self._pairs)

    def __contains__(self, thing):
        # A bool is equal to a number of Python, so the form of the pair is looked at first.
        return is_store(thing) and thing in self._pairs

    def __len__(self):
        return len(self._pairs)

    def __getitem__(self, k):
        if not is_number(k) or k >= len(self._pairs):
            raise NotUsable("k", -1)
        return self._pairs[k]

    def __iter__(self):
        raise TypeError("a Plan has no iteration")

    def __eq__(self, other):
        return isinstance(other, Plan) and self._setting == other._setting and self._pairs == other._pairs

    def __le__(self, other):
        if not isinstance(other, Plan):
            return NotImplemented
        return self._setting == other._setting and all([pair in other._pairs for pair in self._pairs])

    def __ge__(self, other):
        if not isinstance(other, Plan):
            return NotImplemented
        return other <= self

    def __or__(self, other):
        if not isinstance(other, Plan) or self._setting != other._setting:
            raise NotUsable("other", -1)
        return Plan(self._web, self.marks, ascending([*self._pairs, *other._pairs]))

    def __add__(self, other):
        if not is_store(other) or other not in [*self._pairs, *followers(self._web, self._pairs)]:
            raise NotUsable("pair", -1)
        return Plan(self._web, self.marks, ascending([*self._pairs, other]))

    def grown(self):
        """A generator of the Plans with one pair more, ascending by this pair."""
        for pair in followers(self._web, self._pairs):
            yield self + pair

    def __str__(self):
        if len(self._pairs) == 0:
            return "-"
        return " ".join([pair_text(pair) for pair in self._pairs])

    @classmethod
    def first(cls, web, marks):
        """The Plan of the asker's pair alone, or without pairs if marks are less than the asker's fee."""
        check_marks(marks)
        return cls(web, marks, least_plan(web, marks))

    @classmethod
    def widest(cls, web, marks, *, without=()):
        """The Plan with all pairs to which one comes from the first one, none of a kind in without."""
        check_marks(marks)
        if not can_leave_out(web, without):
            raise NotUsable("without", -1)
        return cls(web, marks, widest_pairs(web, marks, without))

    @classmethod
    def parsed(cls, web, marks, text):
        """The Plan that a string writes."""
        check_marks(marks)
        if not isinstance(text, str):
            raise NotUsable("text", -1)
        return cls(web, marks, pairs_read(text))
