import unittest

from firstletter.errors import InvalidPaper, NotUsable
from firstletter.kinds import is_web
from firstletter.webchanges import (asked_by, renamed, with_arrow, with_fee, with_has, with_kind, without_arrow,
                                    without_kind)
from tests.examples import ALIKE, ALONE, Case, JUNK, MIXED, NEAR, RING, WEBS

NO_NAMES = (*JUNK, 'e', 'aa', 'x', ('a',), ['a'], 0, NEAR, NEAR[0][0], ('a', 0))


def changed_row(web, name, place, value):
    """The web with another value at this place of one kind by form."""
    rows = [row[:place] + (value,) + row[place + 1:] if row[0] == name else row for row in web[0]]
    return tuple(rows), web[1]


class WithKindTest(Case):

    def test_examples(self):
        self.same(without_kind(NEAR, 'd')[0],
                  (('a', 1, False, ('b',)), ('b', 1, False, ('c',)), ('c', 1, False, ())))
        self.same(renamed(ALIKE, 's', 'a'), ((('a', 1, False, ('a',)),), 'a'))
        self.same(with_arrow(NEAR, 'c', 'a')[0][2], ('c', 1, False, ('a',)))
        self.fails(InvalidPaper('table', 1), with_kind, ALIKE, ('t', 2, True, ('s', 'u')))
        self.fails(NotUsable('has', -1), with_has, NEAR, 'a', True)

    def test_a_kind_at_each_place(self):
        for web in WEBS:
            names = {row[0] for row in web[0]}
            for name in ('aa', 'ab', 'bb', 'cc', 'e', 'r', 'z', 'zz'):
                for table in ((), (name,), tuple(sorted(names)), tuple(sorted({name, *names}))):
                    kind = (name, 7, True, table)
                    got = self.kept(with_kind, web, kind)
                    self.same(got, (tuple(sorted([*web[0], kind])), web[1]))
                    self.assertTrue(is_web(got))
        self.same(with_kind(kind=('r', 1, False, ()), web=ALIKE), ((('r', 1, False, ()), ALIKE[0][0]), 's'))

    def test_the_place_of_a_wrong_table_is_that_in_the_result(self):
        self.fails(InvalidPaper('table', 0), with_kind, ALIKE, ('r', 2, False, ('q', 's')))
        self.fails(InvalidPaper('table', 1), with_kind, NEAR, ('ab', 2, False, ('a', 'ac')))
        self.fails(InvalidPaper('table', 4), with_kind, NEAR, ('e', 2, True, ('f',)))
        self.fails(InvalidPaper('table', 2), with_kind, MIXED, ('bb', 1, False, ('a', 'bb', 'd')))

    def test_no_kind_by_form_or_a_name_of_the_web(self):
        for kind in (*NO_NAMES, 'a', ('e', 1, False), ('e', 0, False, ()), ('e', True, False, ()), ('e', 1, 0, ()),
                     ('e', 1, None, ()), ('e', 1, False, []), ('e', 1, False, ('b', 'a')), ('e', 1, False, ('a', 'a')),
                     ['e', 1, False, ()], ('E', 1, False, ()), ('e', 1, False, (), 1), ('e', '1', False, ())):
            self.fails(NotUsable('kind', -1), with_kind, NEAR, kind)
        for name in 'abcd':
            self.fails(NotUsable('kind', -1), with_kind, NEAR, (name, 1, False, ()))
            self.fails(NotUsable('kind', -1), with_kind, NEAR, (name, 1, False, ('x',)))
        self.fails(NotUsable('kind', -1), with_kind, ALIKE, ALIKE[0][0])

    def test_without_a_kind(self):
        for web in WEBS:
            for name in [row[0] for row in web[0] if row[0] != web[1]]:
                rows = [(row[0], row[1], row[2], tuple(entry for entry in row[3] if entry != name))
                        for row in web[0] if row[0] != name]
                self.same(self.kept(without_kind, web, name), (tuple(rows), web[1]))
        self.same(without_kind(kind='a', web=MIXED),
                  ((('b', 2, False, ('b', 'c')), ('c', 1, False, ('b',))), 'b'))

    def test_without_no_kind_or_the_asker(self):
        for web in WEBS:
            for kind in (*NO_NAMES, web[1], web[0][0]):
                self.fails(NotUsable('kind', -1), without_kind, web, kind)


class ArrowsTest(Case):

    def test_each_arrow_more_or_less(self):
        for web in WEBS:
            names = [row[0] for row in web[0]]
            for name, _, _, table in web[0]:
                for other in names:
                    if other in table:
                        less = changed_row(web, name, 3, tuple(entry for entry in table if entry != other))
                        self.same(self.kept(without_arrow, web, name, other), less)
                        self.same(with_arrow(less, name, other), web)
                        self.fails(NotUsable('other', -1), with_arrow, web, name, other)
                    else:
                        more = changed_row(web, name, 3, tuple(sorted([*table, other])))
                        self.same(self.kept(with_arrow, web, name, other), more)
                        self.same(without_arrow(more, name, other), web)
                        self.fails(NotUsable('other', -1), without_arrow, web, name, other)

    def test_to_itself(self):
        self.same(without_arrow(ALIKE, 's', 's'), ((('s', 1, False, ()),), 's'))
        self.same(with_arrow(ALONE, 'q', 'q'), ((('q', 2, False, ('q',)),), 'q'))
        self.same(with_arrow(web=NEAR, other='a', kind='a')[0][0], ('a', 1, False, ('a', 'b', 'd')))
        self.same(without_arrow(web=NEAR, other='b', kind='a')[0][0], ('a', 1, False, ('d',)))

    def test_wrong_values(self):
        for function in (with_arrow, without_arrow):
            for wrong in NO_NAMES:
                self.fails(NotUsable('kind', -1), function, NEAR, wrong, 'b')
                self.fails(NotUsable('kind', -1), function, NEAR, wrong, wrong)
                self.fails(NotUsable('kind', -1), function, NEAR, wrong, 'x')
                self.fails(NotUsable('other', -1), function, NEAR, 'a', wrong)
                self.fails(NotUsable('other', -1), function, ALIKE, 's', wrong)


class FeesTest(Case):

    def test_each_fee(self):
        for web in WEBS:
            for row in web[0]:
                for fee in (1, 2, 3, 6, 10 ** 59):
                    self.same(self.kept(with_fee, web, row[0], fee), changed_row(web, row[0], 1, fee))
        self.same(with_fee(fee=9, kind='q', web=ALONE), ((('q', 9, False, ()),), 'q'))

    def test_wrong_values(self):
        for fee in (None, True, False, 0, -1, -10 ** 59, '1', 'a', (), (1,), [1], []):
            self.fails(NotUsable('fee', -1), with_fee, NEAR, 'a', fee)
            self.fails(NotUsable('fee', -1), with_fee, MIXED, 'c', fee)
            self.fails(NotUsable('kind', -1), with_fee, NEAR, 'e', fee)
        for kind in NO_NAMES:
            self.fails(NotUsable('kind', -1), with_fee, NEAR, kind, 1)
            self.fails(NotUsable('kind', -1), with_fee, NEAR, kind, 0)


class HavingTest(Case):

    def test_each_kind(self):
        for web in WEBS:
            for row in web[0]:
                self.same(self.kept(with_has, web, row[0], False), changed_row(web, row[0], 2, False))
                if row[0] != web[1]:
                    self.same(self.kept(with_has, web, row[0], True), changed_row(web, row[0], 2, True))
                else:
                    self.fails(NotUsable('has', -1), with_has, web, row[0], True)
        self.same(with_has(has=True, kind='c', web=MIXED)[0][2], ('c', 1, True, ('b',)))

    def test_wrong_values(self):
        for has in (None, 0, 1, -1, 2, 'has', 'not', '', 'True', (), (True,), [True], [False], []):
            for kind in 'abcd':
                self.fails(NotUsable('has', -1), with_has, NEAR, kind, has)
            self.fails(NotUsable('kind', -1), with_has, NEAR, 'e', has)
        for kind in NO_NAMES:
            self.fails(NotUsable('kind', -1), with_has, NEAR, kind, True)
            self.fails(NotUsable('kind', -1), with_has, NEAR, kind, False)
            self.fails(NotUsable('kind', -1), with_has, NEAR, kind, None)


class AskerTest(Case):

    def test_each_asker(self):
        for web in WEBS:
            for row in web[0]:
                if row[2]:
                    self.fails(NotUsable('kind', -1), asked_by, web, row[0])
                else:
                    self.same(self.kept(asked_by, web, row[0]), (web[0], row[0]))
        self.same(asked_by(kind='d', web=RING), (RING[0], 'd'))
        self.fails(NotUsable('kind', -1), asked_by, MIXED, 'a')

    def test_wrong_values(self):
        for web in WEBS:
            for kind in NO_NAMES:
                self.fails(NotUsable('kind', -1), asked_by, web, kind)


class RenamedTest(Case):

    def test_everywhere_and_in_order(self):
        self.same(renamed(NEAR, 'b', 'e'), ((('a', 1, False, ('d', 'e')), ('c', 1, False, ()), ('d', 1, False, ('e',)),
                                             ('e', 1, False, ('c',))), 'a'))
        self.same(renamed(RING, 'd', 'aa'), ((('a', 1, False, ('aa', 'b')), ('aa', 1, False, ('aa', 'b')),
                                              ('b', 1, False, ('c',)), ('c', 1, False, ())), 'a'))
        self.same(renamed(name='x', web=NEAR, kind='a'),
                  ((*NEAR[0][1:], ('x', 1, False, ('b', 'd'))), 'x'))
        self.same(renamed(MIXED, 'b', 'abcdefgh'),
                  ((('a', 3, True, ('abcdefgh', 'c')), ('abcdefgh', 2, False, ('a', 'abcdefgh', 'c')),
                    ('c', 1, False, ('abcdefgh',))), 'abcdefgh'))
        self.same(renamed(MIXED, 'b', 'z'), ((('a', 3, True, ('c', 'z')), ('c', 1, False, ('z',)),
                                              ('z', 2, False, ('a', 'c', 'z'))), 'z'))

    def test_there_and_back(self):
        for web in WEBS:
            for row in web[0]:
                for name in ('aa', 'bb', 'e', 'zz', 'abcdefgh', row[0]):
                    got = self.kept(renamed, web, row[0], name)
                    self.assertTrue(is_web(got))
                    self.same(renamed(got, name, row[0]), web)
                self.same(renamed(web, row[0], row[0]), web)

    def test_names_of_other_kinds_and_no_names(self):
        for kind in 'abcd':
            for name in 'abcd':
                if name != kind:
                    self.fails(NotUsable('name', -1), renamed, NEAR, kind, name)
            for name in (*JUNK, ('e',), ['e'], 0, 'E', 'e1', 'abcdefghi', 'a b'):
                if name not in ('no', 'zz'):
                    self.fails(NotUsable('name', -1), renamed, NEAR, kind, name)
        for kind in NO_NAMES:
            self.fails(NotUsable('kind', -1), renamed, NEAR, kind, 'z')
            self.fails(NotUsable('kind', -1), renamed, NEAR, kind, 'a')
            self.fails(NotUsable('kind', -1), renamed, NEAR, kind, 5)


if __name__ == '__main__':
    unittest.main()
