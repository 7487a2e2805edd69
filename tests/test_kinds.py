import unittest

from firstletter import kinds
from firstletter.errors import LetterError
from firstletter.webchecker import lets_web
from tests.examples import ALIKE, ALONE, Case, JUNK, MIXED, NEAR, RING, nested

A = ('a', 1, False, ())
B = ('b', 1, False, ('a', 'b'))

# Any values, each with the functions is_.. that return True for it.
POOL = (
    (0, 'integer number'), (1, 'integer number'), (10 ** 60 - 1, 'integer number'), (7, 'integer number'),
    (-1, 'integer'), (1 - 10 ** 60, 'integer'), (True, ''), (False, ''), (None, ''),
    ('a', 'name'), ('z', 'name'), ('abcdefgh', 'name'), ('zzzzzzzz', 'name'), ('came', 'name'), ('m', 'name'),
    ('', ''), ('abcdefghi', ''), ('A', ''), ('aB', ''), ('Ab', ''), ('a1', ''), ('a b', ''), (' a', ''), ('a ', ''),
    ('a\n', ''), ('\na', ''), ('a-', ''), ('a_b', ''), ('a,b', ''), ('`', ''), ('{', ''), ('1', ''), ('a' * 4000, ''),
    ((), 'table'), (('a',), 'table'), (('a', 'ab', 'b'), 'table'), (('guard', 'on'), 'table event'),
    (tuple(f'a{x}{y}' for x in 'abcdefghij' for y in 'abcdefghij'), 'table'),
    (('b', 'a'), ''), (('a', 'a'), ''), (('a', 'b', 'b'), ''), (('a', 'c', 'b'), ''), (('a', 'B'), ''), (('a', 1), 'store'),
    (['a', 'b'], ''), ([], ''), ([['a']], ''), ((['a'],), ''), (('a', ''), ''), (('a', None), ''), (('abcdefghi',), ''),
    (A, 'kind'), (B, 'kind'), (('a', 10 ** 59, True, ('zz',)), 'kind'), (('abcdefgh', 3, False, ('a', 'b')), 'kind'),
    (('a', 0, False, ()), ''), (('a', -1, False, ()), ''), (('a', True, False, ()), ''), (('a', '1', False, ()), ''),
    (('a', None, False, ()), ''), (('a', 1, 0, ()), ''), (('a', 1, 1, ()), ''), (('a', 1, None, ()), ''),
    (('a', 1, 'not', ()), ''), (('a', 1, False, ('b', 'a')), ''), (('a', 1, False, ('a', 'a')), ''),
    (('a', 1, False, []), ''), (('a', 1, False, ['a']), ''), (('a', 1, False, None), ''), (('a', 1, False, 'b'), ''),
    (('A', 1, False, ()), ''), (('', 1, False, ()), ''), ((None, 1, False, ()), ''), (('a', 1, False), ''),
    (('a', 1, False, (), ()), ''), (['a', 1, False, ()], ''), (('a', 1, (), False), ''), ((1, 'a', False, ()), ''),
    (NEAR, 'web'), (RING, 'web'), (ALIKE, 'web'), (MIXED, 'web'), (ALONE, 'web'),
    (((A, B), 'b'), 'web'), (((('a', 1, True, ()), B), 'b'), 'web'), (((('a', 1, True, ()), B), 'a'), ''),
    (((B, A), 'a'), ''), (((A, A), 'a'), ''), (((A, B, ('b', 2, False, ())), 'a'), ''), (((B,), 'b'), ''),
    (((A, ('c', 1, False, ()), B), 'a'), ''), (([A, B], 'a'), ''), ([(A, B), 'a'], ''), (((A, B), 'c'), ''),
    (((A, B), 'ab'), ''), (((A, B), ''), ''), (((A, B), None), ''), (((A, B), ['a']), ''), (((A, B), ('a',)), ''),
    (((A, B), A), ''), (((A, B), True), ''), (((A, B), 0), ''), (((A, list(B)), 'a'), ''), (((A, None), 'a'), ''),
    (((None, A), 'a'), ''), (((7,), 'a'), ''), ((((),), 'a'), ''), (((), 'a'), ''), (((), ()), ''), (((A, B),), ''),
    (((A, B), 'a', 'a'), ''), ((A, 'a'), ''), (((('a', 0, False, ()), B), 'b'), ''), ((('a', 'b'), 'a'), ''),
    (((('ab', 1, False, ()), ('b', 1, False, ())), 'ab'), 'web'), (((('b', 1, False, ()), ('ab', 1, False, ())), 'b'), ''),
    (((('a', 1, False, ('b',)), ('b', 1, False, ('c',)), ('c', 1, False, ())), 'c'), 'web'),
    (((('a', 1, False, ('d',)), ('b', 1, False, ('c',)), ('c', 1, False, ())), 'c'), ''),
    (((('a', 1, False, ()), ('b', 1, False, ()), ('c', 1, False, ('a', 'b', 'c', 'd'))), 'c'), ''),
    (('a', 0), 'store'), (('abcdefgh', 10 ** 59), 'store'), (('note', 5), 'store'), (('a', -1), ''), (('a', True), ''),
    (('a', False), ''), (('a', '0'), ''), (('A', 0), ''), ((0, 'a'), ''), (['a', 0], ''), (('a',), 'table'),
    (('a', 0, 0), ''), (('a', None), ''), (('', 0), ''), ((('a',), 0), ''), (('a', (0,)), ''), (('a', [0]), ''),
    ((('a', 0), ('b', 1)), 'letter'), ((('a', 0), ('a', 0)), 'letter'), ((('zz', 7), ('a', 10 ** 59)), 'letter'),
    ((('a', 0), ('b', True)), ''), ((('a', False), ('b', 0)), ''), ((('a', 0), ['b', 0]), ''),
    ((['a', 0], ('b', 0)), ''), ([('a', 0), ('b', 0)], ''), ((('a', 0),), ''), ((('a', 0), ('b', 0), ('c', 0)), ''),
    ((('a', 0), None), ''), ((None, ('a', 0)), ''), ((('a', 0), ('b', -1)), ''), ((('a', -1), ('b', 0)), ''),
    ((('a', 0), 'b'), ''), (('a', ('b', 0)), ''), ((('a', 0), ('A', 0)), ''), ((('A', 0), ('a', 0)), ''),
    (('came', ('a', 0), ('b', 1)), 'event'), (('came', ('a', 0), ('a', 0)), 'event'),
    (('came', ('zz', 9), ('a', 10 ** 59)), 'event'), (('came', ('a', 0)), ''), (('came',), 'table'),
    (('came', ('a', 0), ('b', 1), ('c', 1)), ''), (('came', (('a', 0), ('b', 1))), ''), (('came', 'a', 'b'), ''),
    (('came', ['a', 0], ('b', 1)), ''), (('came', ('a', 0), ['b', 1]), ''), (('came', ('a', True), ('b', 1)), ''),
    (('came', ('a', 0), ('b', True)), ''), (('came', ('a', 0), None), ''), (('came', None, ('a', 0)), ''),
    (['came', ('a', 0), ('b', 1)], ''), (('Came', ('a', 0), ('b', 1)), ''), (('come', ('a', 0), ('b', 1)), ''),
    (('', ('a', 0), ('b', 1)), ''), ((True, ('a', 0), ('b', 1)), ''), ((['came'], ('a', 0), ('b', 1)), ''),
    (('guard', 'off'), 'table event'), (('guard', 'an'), ''), (('guard', 'onn'), 'table'), (('guard', 'On'), ''),
    (('guard', ''), ''), (('guard', True), ''), (('guard', None), ''), (('guard', ['on']), ''), (('guard', ('on',)), ''),
    (('guard',), 'table'), (('guard', 'on', 'on'), ''), (('guard', 'on', 'off'), ''), (['guard', 'on'], ''),
    (('guard', 1), 'store'), (('Guard', 'on'), ''), (('note', 'on'), 'table event'), (('note', 'a'), 'event'),
    (('note', 'abcdefgh'), 'event'), (('note', 'note'), 'event'), (('note', 'abcdefghi'), ''), (('note', ''), ''),
    (('note', 'A'), ''), (('note', None), ''), (('note', True), ''), (('note', ['a']), ''), (('note', ('a',)), ''),
    (('note',), 'table'), (('note', 'a', 'b'), ''), (['note', 'a'], ''), (('on', 'guard'), ''), (('note', 'z'), 'table event'),
    (((('a', 0), ('b', 0)),), ''), ((None,), ''), ((None, None), ''), ((None,) * 4, ''), (((),), ''), (([],), ''),
    (nested(40), ''), ([None] * 5000, ''), ((1,) * 5000, ''),
)
FUNCTIONS = ('integer', 'number', 'name', 'table', 'kind', 'web', 'store', 'letter', 'event')


class KindsTest(Case):

    def check(self, short):
        for value, accepting in POOL:
            got = self.kept(getattr(kinds, f'is_{short}'), value)
            self.assertIs(got, short in accepting.split(), (short, value))

    def test_integers(self):
        self.check('integer')

    def test_numbers(self):
        self.check('number')

    def test_names(self):
        self.check('name')

    def test_tables(self):
        self.check('table')

    def test_kinds(self):
        self.check('kind')

    def test_webs(self):
        self.check('web')

    def test_stores(self):
        self.check('store')

    def test_letters(self):
        self.check('letter')

    def test_events(self):
        self.check('event')

    def test_each_character_of_a_name(self):
        for code in range(32, 127):
            for name in (chr(code), 'a' + chr(code), chr(code) + 'a', 'abc' + chr(code) + 'abcd'):
                self.assertIs(kinds.is_name(name), 97 <= code <= 122, name)

    def test_each_length_of_a_name(self):
        for length in range(20):
            self.assertIs(kinds.is_name('q' * length), 1 <= length <= 8)

    def test_any_value_is_judged(self):
        for value in JUNK:
            for short in FUNCTIONS:
                self.assertIsInstance(self.kept(getattr(kinds, f'is_{short}'), value), bool)

    def test_a_web_is_what_its_checker_accepts(self):
        for value in [*[row[0] for row in POOL], *JUNK]:
            try:
                lets_web(value)
                accepted = True
            except LetterError:
                accepted = False
            self.assertIs(kinds.is_web(value), accepted, value)

    def test_webs_with_many_kinds(self):
        names = [x + y for x in 'abcdefghij' for y in 'abcdefghij']
        rows = tuple((name, 1, False, tuple(names[:k])) for k, name in enumerate(names))
        self.assertIs(kinds.is_web((rows, 'jj')), True)
        self.assertIs(kinds.is_web((rows[1:], 'jj')), False)


if __name__ == '__main__':
    unittest.main()
