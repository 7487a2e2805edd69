import unittest

from firstletter.errors import InvalidPaper
from firstletter.webchecker import lets_web
from tests.examples import ALIKE, ALONE, Case, JUNK, MIXED, NEAR, RING

A = ('a', 1, False, ())
B = ('b', 1, False, ('a', 'b'))
C = ('c', 2, True, ('a',))
NO_TABLE = ('b', 1, False, ('x',))
NO_KINDS = (
    None, True, 0, 'b', '', (), [], 'kind', ('b',), ('b', 1, False), ('b', 1, False, (), ()), ['b', 1, False, ()],
    ('b', 0, False, ()), ('b', -1, False, ()), ('b', True, False, ()), ('b', 1, 0, ()), ('b', 1, 1, ()),
    ('b', 1, None, ()), ('b', 1, False, []), ('b', 1, False, ['a']), ('b', 1, False, ('b', 'a')),
    ('b', 1, False, ('a', 'a')), ('b', 1, False, ('a', 'A')), ('b', 1, False, ('a', 1)), ('b', 1, False, 'a'),
    ('b', 1, False, None), ('B', 1, False, ()), ('', 1, False, ()), (None, 1, False, ()), (('b',), 1, False, ()),
    ('b', '1', False, ()), ('b', [1], False, ()), ('bbbbbbbbb', 1, False, ()), ('b', 1, False, ('a', 'bbbbbbbbb')),
)


class WebCheckerTest(Case):

    def rejects(self, word, at, thing):
        self.fails(InvalidPaper(word, at), lets_web, thing)

    def test_examples(self):
        self.same([lets_web(NEAR), lets_web(RING), lets_web(ALIKE)], [4, 5, 1])
        self.rejects('kind', 1, ((('a', 1, False, ('c',)), ('b', 0, False, ())), 'a'))

    def test_how_many_names_all_tables_have(self):
        for web, many in ((MIXED, 6), (ALONE, 0), (((A, B, C), 'a'), 3), (((A, B, C), 'b'), 3)):
            self.same(self.kept(lets_web, web), many)
        self.same(lets_web(thing=NEAR), 4)

    def test_shape(self):
        for thing in (None, True, 0, '', 'ab', (), (A,), ((A,),), ((A,), 'a', 'a'), [(A,), 'a'], ([A], 'a'), (None, 'a'),
                      ('a', (A,)), ('aa', 'a'), (True, 'a'), (1, 'a'), ('', ''), [A, B], ([], [])):
            self.rejects('shape', -1, thing)

    def test_each_kind_that_is_none(self):
        for kind in NO_KINDS:
            self.rejects('kind', 1, ((A, kind), 'a'))
            self.rejects('kind', 0, ((kind,), 'b'))
            self.rejects('kind', 2, ((A, ('ab', 1, False, ()), kind, C), 'a'))

    def test_names_that_are_not_greater(self):
        self.rejects('kind', 1, ((B, A), 'a'))
        self.rejects('kind', 1, ((A, A), 'a'))
        self.rejects('kind', 1, ((A, ('a', 2, False, ())), 'a'))
        self.rejects('kind', 2, ((A, C, B), 'a'))
        self.rejects('kind', 2, ((A, B, ('ab', 1, False, ())), 'a'))
        self.rejects('kind', 3, ((A, B, C, B), 'a'))
        self.rejects('kind', 1, ((('ba', 1, False, ()), ('b', 1, False, ())), 'b'))

    def test_tables_with_other_names(self):
        self.rejects('table', 1, ((A, NO_TABLE), 'a'))
        self.rejects('table', 0, ((('a', 1, False, ('b',)),), 'a'))
        self.rejects('table', 1, ((A, ('b', 1, False, ('a', 'b', 'c')), ('d', 1, False, ())), 'a'))
        self.rejects('table', 2, ((A, B, ('c', 1, True, ('aa',)), ('d', 1, False, ('x',))), 'a'))

    def test_asker(self):
        for asker in (None, True, 0, '', 'A', 'd', 'c', 'ab', ('a',), ['a'], [], A, (A, B), 'x', 'a '):
            self.rejects('asker', -1, ((A, B, C), asker))
        self.rejects('asker', -1, ((), 'a'))
        self.rejects('asker', -1, ((), None))
        self.rejects('asker', -1, ((C[:3] + ((),),), 'c'))

    def test_the_first_fault_counts(self):
        self.rejects('shape', -1, ([A, A], 'x'))
        self.rejects('shape', -1, ((NO_TABLE, A), 'x', 'y'))
        self.rejects('kind', 1, ((('a', 1, False, ('x',)), ('a', 1, False, ())), 'x'))
        self.rejects('kind', 2, ((A, NO_TABLE, None), 'x'))
        self.rejects('kind', 0, ((None, None), None))
        self.rejects('kind', 1, ((A, None, A), None))
        self.rejects('kind', 1, ((B, A, None), None))
        self.rejects('table', 0, ((('a', 1, True, ('x',)), ('b', 1, False, ('y',))), 'a'))
        self.rejects('table', 1, ((A, NO_TABLE, C), 'c'))
        self.rejects('table', 1, ((A, NO_TABLE), []))

    def test_any_value(self):
        for thing in JUNK:
            self.rejects('asker', -1, ((A, B), thing))
            self.rejects('kind', 1, ((A, thing), 'a'))
            if not isinstance(thing, tuple):
                self.rejects('shape', -1, thing)
                self.rejects('shape', -1, (thing, 'a'))


if __name__ == '__main__':
    unittest.main()
