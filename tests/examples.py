"""Webs and other values that the tests share, and how they compare and await errors."""

import copy
import unittest

from firstletter.errors import NotUsable

NEAR = ((('a', 1, False, ('b', 'd')), ('b', 1, False, ('c',)), ('c', 1, False, ()), ('d', 1, False, ('b',))), 'a')
RING = ((('a', 1, False, ('b', 'd')), ('b', 1, False, ('c',)), ('c', 1, False, ()), ('d', 1, False, ('b', 'd'))), 'a')
ALIKE = ((('s', 1, False, ('s',)),), 's')
# The asker is not the first kind, is sent to, and has other fees than 1 around it.
MIXED = ((('a', 3, True, ('b', 'c')), ('b', 2, False, ('a', 'b', 'c')), ('c', 1, False, ('b',))), 'b')
ALONE = ((('q', 2, False, ()),), 'q')
WEBS = (NEAR, RING, ALIKE, MIXED, ALONE)

A, B, C, D = ('a', 0), ('b', 0), ('c', 0), ('d', 0)
ONES = (1, 1, 1, 1)
LONG = ((('a', 0), ('d', 0)), (('d', 0), ('b', 0)), (('a', 0), ('b', 0)))
TREE = ((('b', 0), ('d', 0)), (('d', 0), ('a', 0)))


def nested(depth):
    """Tuples and lists in each other, so deep."""
    value = 'a'
    for k in range(depth):
        value = (value,) if k % 2 else [value]
    return value


# Any values, of which none is a table with a name, a kind by form, a web, numbers, a run or a tree of the webs above.
JUNK = (
    None, True, False, -1, 10 ** 59, -10 ** 59, '', 'A', 'abcdefghi', 'a b', 'a\n', 'a1', '1', '-', 'no', 'zz',
    [], [1], ['a'], [('a', 0)], ['a', 0], (None,), (True,), (False,), (0,), (-1,), ('a', True), ('a', -1), ('A', 0),
    ('a', 0, 0), (('a', 0), ['a', 0]), [('a', 0), ('b', 0)], ((),), ([],), ([('a', 0)],), (None, 1),
    nested(39), nested(40), tuple(range(-5, 100)), [None] * 200, ('a',) * 100,
)

# What is wrong for NEAR with one store of each kind.
NO_NUMBERS = (*JUNK, (1, 1, 1), (1, 1, 1, 1, 1), (1, 1, 0, 1), (1, 1, 1, True), [1, 1, 1, 1], (1, 1, -1, 1), 4)
NO_MARKS = (None, True, False, -1, '2', 'a', '', (), (2,), [2], [], -10 ** 59)
NO_STORES = (None, True, 0, 'a', '', (), [], ('a',), ('a', 0, 0), ['a', 0], ('a', True), ('a', False), ('a', -1), ('a', 1),
             ('a', 10 ** 59), ('e', 0), ('A', 0), ('', 0), (0, 'a'), ('a', '0'), ('a', None), (['a'], 0), (A, C))
NO_LETTERS = (None, True, 0, 'a', 'ab', '', (), [], (A,), [A, D], (A, D, B), 5, *NO_STORES[:-1],
              *[(A, store) for store in NO_STORES], *[(store, D) for store in NO_STORES])

NO_KINDS = (*JUNK, 'e', 'aa', 'B', ('a',), ['c'], 0, 1, A, NEAR[0][0])


def shown(value):
    """A string for each value, which tells True from 1, a tuple from a list, and objects by class and form."""
    if isinstance(value, (tuple, list, dict)):
        rows = [[key, value[key]] for key in value] if isinstance(value, dict) else value
        return type(value).__name__ + ' of ' + ' '.join(f'({shown(row)})' for row in rows)
    if hasattr(value, 'form'):
        return type(value).__name__ + ' ' + repr(value.form)
    if type(value).__module__.startswith('firstletter.'):
        return type(value).__name__ + ' ' + shown(vars(value))
    return repr(value)


def fields_of(error):
    """The fields of an error by name."""
    return shown({name: value for name, value in sorted(vars(error).items()) if not name.startswith('_')})


class Case(unittest.TestCase):
    """Comparisons in which True is not 1 and a list is no tuple."""

    def same(self, got, wanted, why=None):
        if shown(got) != shown(wanted):
            self.fail(f'{got!r} is not {wanted!r} {why or ""}')

    def kept(self, function, *args, **more):
        """What a function returns; what is handed in is afterwards as it was."""
        before = copy.deepcopy((args, more))
        try:
            return function(*args, **more)
        finally:
            self.same((args, more), before)

    def fails(self, wanted, function, *args, **more):
        """A call raises an error of this very class, with these fields."""
        try:
            got = self.kept(function, *args, **more)
        except type(wanted) as error:
            self.assertIs(type(error), type(wanted))
            self.assertEqual(fields_of(error), fields_of(wanted), (args, more))
            return
        self.fail(f'{function} of {args!r} {more!r} returned {got!r}, and did not raise {wanted!r}')

    def refuses(self, function, web, *rows):
        """Each row is the name, a right value and wrong values of a parameter behind web, in their order: of several
        that are not as they have to be the first one is told."""
        names = [name for name, _, _ in rows]
        right = [value for _, value, _ in rows]
        for k, (name, _, wrongs) in enumerate(rows):
            for wrong in wrongs:
                given = [*right[:k], wrong, *right[k + 1:]]
                self.fails(NotUsable(name, -1), function, web, *given)
                self.fails(NotUsable(name, -1), function, web, *given[:k + 1], *[None] * len(right[k + 1:]))
            if wrongs:
                given = dict(zip(names, [*right[:k], wrongs[-1], *right[k + 1:]]))
                self.fails(NotUsable(name, -1), function, web=web, **given)
