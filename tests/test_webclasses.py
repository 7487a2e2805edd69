import unittest

from firstletter.errors import InvalidPaper, InvalidText, NotUsable
from firstletter.webchanges import (asked_by, renamed, with_arrow, with_fee, with_has, with_kind, without_arrow,
                                    without_kind)
from firstletter.webclasses import Dearer, Emptied, Web
from firstletter.webtexts import web_text
from tests.examples import Case, JUNK, MIXED, NEAR, RING, WEBS

NO_NAMES = (*JUNK, 'e', 'aa', 'x', ('a',), ['a'], 0, 1, NEAR, NEAR[0][0], ('a', 0), 'B')
HELD = ((('a', 1, False, ('b', 'c')), ('b', 2, True, ()), ('c', 3, True, ('a', 'c'))), 'a')
E = ('e', 4, True, ('e',))


def family(form):
    """A Web of this form, and webs of the derived classes with the same form."""
    kinds, asker = form
    web = Web(kinds, asker)
    webs = [web, Emptied(web)]
    if all(row[1] > 1 for row in kinds):
        cheaper = Web(tuple((name, fee - 1, has, table) for name, fee, has, table in kinds), asker)
        webs.append(Dearer(cheaper))
    return webs


FORMS = (*WEBS, HELD, ((('a', 2, False, ('b',)), ('b', 3, True, ('a',))), 'a'))
ALL = [(form, web) for form in FORMS for web in family(form)]


class WebTest(Case):

    def is_web_of(self, web, form):
        """A new object of the class Web itself."""
        self.assertIs(type(web), Web)
        self.same(web.form, form)

    def test_examples(self):
        web = Web.plain(1, 2).holding('b', True)
        self.same([web['b'], web('a'), len(web), 'c' in web, Dearer(web)['a'], Emptied(web, 'b') == Web.plain(1, 2),
                   (web - 'b').form],
                  [('b', 2, True, ()), ('b',), 2, False, ('a', 2, False, ('b',)), True, ((('a', 1, False, ()),), 'a')])
        self.same(str(Dearer(web, by=3)), 'kind a 4 not b\nkind b 5 has -\nasker a')

    def test_properties(self):
        for form, web in ALL:
            self.same((web.kinds, web.asker, web.form), (*form, form))
        web = Web(asker='a', kinds=NEAR[0])
        self.same(web.form, NEAR)

    def test_errors_of_the_checker(self):
        a, b, x = ('a', 1, False, ()), ('b', 1, True, ()), ('b', 1, True, ('x',))
        for kinds, asker, error in (([a, b], 'a', InvalidPaper('shape', -1)), (None, 'a', InvalidPaper('shape', -1)),
                                    ('a', 'a', InvalidPaper('shape', -1)), ([], [], InvalidPaper('shape', -1)),
                                    ((b, a), 'c', InvalidPaper('kind', 1)), ((a, None), 'a', InvalidPaper('kind', 1)),
                                    ((a, x, b), 'c', InvalidPaper('kind', 2)), ((a, x), 'c', InvalidPaper('table', 1)),
                                    ((a, b), 'c', InvalidPaper('asker', -1)), ((a, b), 'b', InvalidPaper('asker', -1)),
                                    ((a, b), ['a'], InvalidPaper('asker', -1)), ((), 'a', InvalidPaper('asker', -1)),
                                    ((a, b), None, InvalidPaper('asker', -1)), (NEAR, 'a', InvalidPaper('kind', 0))):
            self.fails(error, Web, kinds, asker)
        for thing in JUNK:
            self.fails(InvalidPaper('asker', -1), Web, (a, b), thing)
            self.fails(InvalidPaper('kind', 1), Web, (a, thing), 'a')

    def test_items(self):
        for form, web in ALL:
            for row in form[0]:
                self.same(web[row[0]], row)
                self.same(web(row[0]), row[3])
                self.same(web(kind=row[0]), row[3])
            for kind in NO_NAMES:
                self.fails(NotUsable('kind', -1), lambda value: web[value], kind)
                self.fails(NotUsable('kind', -1), web, kind)

    def test_membership_length_and_iteration(self):
        for form, web in ALL:
            names = [row[0] for row in form[0]]
            self.assertIs(len(web), len(names))
            self.same(list(web), names)
            self.same([name for name in web], names)
            self.same(tuple(web), tuple(names))
            for name in names:
                self.assertIs(name in web, True)
            for thing in (*NO_NAMES, web, web.kinds, web.form):
                self.assertIs(thing in web, False)

    def test_equality(self):
        for form, web in ALL:
            for other_form, other in ALL:
                self.assertIs(web == other, form == other_form)
                self.assertIs(web != other, form != other_form)
            for thing in (*JUNK, form, str(web), list(web), form[0], 'a'):
                self.assertIs(web == thing, False)
                self.assertIs(thing == web, False)
                self.assertIs(web != thing, True)
        self.assertIs(Web(NEAR[0], 'a') == Web(NEAR[0], 'b'), False)
        self.assertIs(Web(NEAR[0], 'a') == Web(RING[0], 'a'), False)
        self.assertIs(Dearer(Web.plain(1, 1)) == Web.plain(2, 2), True)
        self.assertIs(Web.plain(2, 2) == Dearer(Web.plain(1, 1)), True)
        self.assertIs(Dearer(Web.plain(1, 1)) == Emptied(Web.plain(2, 2)), True)
        self.assertIs(Dearer(Web.plain(1, 1)) == Web.plain(1, 1), False)

    def test_texts(self):
        for form, web in ALL:
            self.same(str(web), web_text(form))
            self.same(f'{web}', web_text(form))
            self.assertIs(Web.parsed(str(web)) == web, True)

    def test_changes(self):
        for form, web in ALL:
            self.is_web_of(web + E, with_kind(form, E))
            for name in list(web):
                self.is_web_of(web.costing(name, 9), with_fee(form, name, 9))
                self.is_web_of(web.holding(name, False), with_has(form, name, False))
                self.is_web_of(web.calling(name, 'x'), renamed(form, name, 'x'))
                self.is_web_of(web.calling(name, name), form)
                if name != web.asker:
                    self.is_web_of(web - name, without_kind(form, name))
                    self.is_web_of(web.holding(name, True), with_has(form, name, True))
                if not web[name][2]:
                    self.is_web_of(web.asking(name), asked_by(form, name))
                for other in list(web):
                    if other in web(name):
                        self.is_web_of(web.sparing(name, other), without_arrow(form, name, other))
                    else:
                        self.is_web_of(web.sending(name, other), with_arrow(form, name, other))
            self.same(web.form, form)

    def test_changes_by_name(self):
        web = Web(*MIXED)
        self.is_web_of(web.sending(other='a', kind='c'), with_arrow(MIXED, 'c', 'a'))
        self.is_web_of(web.sparing(other='a', kind='b'), without_arrow(MIXED, 'b', 'a'))
        self.is_web_of(web.costing(fee=7, kind='b'), with_fee(MIXED, 'b', 7))
        self.is_web_of(web.holding(has=True, kind='c'), with_has(MIXED, 'c', True))
        self.is_web_of(web.asking(kind='c'), asked_by(MIXED, 'c'))
        self.is_web_of(web.calling(name='d', kind='c'), renamed(MIXED, 'c', 'd'))
        self.is_web_of(Web.parsed(text='kind a 1 not -\nasker a'), ((('a', 1, False, ()),), 'a'))

    def test_wrong_changes(self):
        for _, web in ALL:
            for wrong in NO_NAMES:
                if wrong != NEAR[0][0] or 'a' in web:
                    self.fails(NotUsable('kind', -1), lambda value: web + value, wrong)
                self.fails(NotUsable('kind', -1), lambda value: web - value, wrong)
                for call in (web.sending, web.sparing, web.costing, web.holding, web.calling):
                    self.fails(NotUsable('kind', -1), call, wrong, wrong)
                    self.fails(NotUsable('kind', -1), call, wrong, 'x')
                self.fails(NotUsable('kind', -1), web.asking, wrong)
                self.fails(NotUsable('other', -1), web.sending, web.asker, wrong)
                self.fails(NotUsable('other', -1), web.sparing, web.asker, wrong)
            self.fails(NotUsable('kind', -1), lambda value: web - value, web.asker)
            self.fails(NotUsable('kind', -1), lambda value: web + value, web.kinds[0])
            self.fails(InvalidPaper('table', len(web)), lambda value: web + value, ('z', 1, False, ('x',)))
            self.fails(NotUsable('fee', -1), web.costing, web.asker, True)
            self.fails(NotUsable('fee', -1), web.costing, web.asker, 0)
            self.fails(NotUsable('has', -1), web.holding, web.asker, 0)
            self.fails(NotUsable('has', -1), web.holding, web.asker, True)
            self.fails(NotUsable('name', -1), web.calling, web.asker, 'X')
        web = Web(*HELD)
        self.fails(NotUsable('kind', -1), web.asking, 'b')
        self.fails(NotUsable('other', -1), web.sending, 'a', 'b')
        self.fails(NotUsable('other', -1), web.sparing, 'a', 'a')
        self.fails(NotUsable('name', -1), web.calling, 'a', 'b')

    def test_a_web_never_changes(self):
        for form, web in ALL:
            kept = web
            web += ('zz', 1, False, ())
            web -= 'zz'
            self.assertIs(type(web), Web)
            self.assertIsNot(web, kept)
            self.same((web.form, kept.form), (form, form))
            for name in ('kinds', 'asker', 'form', *(['source'] if type(kept) is not Web else [])):
                with self.assertRaises(AttributeError):
                    setattr(kept, name, form)
            with self.assertRaises(TypeError):
                kept['a'] = E
            with self.assertRaises(TypeError):
                del kept['a']
            self.same((kept.form, str(kept), list(kept)), (form, web_text(form), [row[0] for row in form[0]]))

    def test_parsed(self):
        self.is_web_of(Web.parsed(web_text(MIXED)), MIXED)
        self.fails(InvalidText(0, 0), Web.parsed, '')
        self.fails(InvalidText(1, 4), Web.parsed, 'kind a 1 not -\nkind b 1 not b,a\nasker a')
        self.fails(InvalidText(1, 0), Web.parsed, 'kind a 1 not x')
        self.fails(InvalidPaper('asker', -1), Web.parsed, 'asker a')
        self.fails(InvalidPaper('kind', 1), Web.parsed, 'kind b 1 not x\nkind a 1 not -\nasker c')
        self.fails(InvalidPaper('table', 0), Web.parsed, 'kind a 1 not x\nasker c')
        self.fails(InvalidPaper('asker', -1), Web.parsed, 'kind a 1 has -\nasker a')

    def test_plain(self):
        self.is_web_of(Web.plain(5), ((('a', 5, False, ()),), 'a'))
        self.is_web_of(Web.plain(1, 3, 2), ((('a', 1, False, ('b',)), ('b', 3, False, ('c',)), ('c', 2, False, ())), 'a'))
        many = Web.plain(*range(1, 27))
        letters = 'abcdefghijklmnopqrstuvwxyz'
        rows = tuple((letters[k], k + 1, False, tuple(letters[k + 1:k + 2])) for k in range(26))
        self.is_web_of(many, (rows, 'a'))

    def test_wrong_plain(self):
        self.fails(NotUsable('fees', -1), Web.plain)
        for fee in (None, True, False, 0, -1, '1', 'a', (), (1,), [1], [], 10 ** 59 * -1):
            for k in range(4):
                fees = [1] * 4
                fees[k] = fee
                self.fails(NotUsable('fees', k), Web.plain, *fees)
                self.fails(NotUsable('fees', k), Web.plain, *fees[:k + 1], 0, *[1] * 30)
            self.fails(NotUsable('fees', 25), Web.plain, *[1] * 25, fee)
            self.fails(NotUsable('fees', 26), Web.plain, *[1] * 26, fee)
        for many in (27, 28, 60):
            self.fails(NotUsable('fees', 26), Web.plain, *[2] * many)

    def test_kinds_of_methods(self):
        self.assertIsInstance(vars(Web)['parsed'], classmethod)
        self.assertIsInstance(vars(Web)['plain'], staticmethod)
        for name in ('kinds', 'asker', 'form'):
            self.assertIsInstance(vars(Web)[name], property)
        self.is_web_of(Web(*NEAR).plain(1), ((('a', 1, False, ()),), 'a'))


class DearerTest(Case):

    def test_each_fee_is_greater(self):
        for form, web in ALL:
            for by in (1, 2, 10 ** 59):
                got = Dearer(web, by=by)
                rows = tuple((name, fee + by, has, table) for name, fee, has, table in form[0])
                self.same(got.form, (rows, form[1]))
                self.assertIs(got.source, web)
                self.assertIs(type(got), Dearer)
                self.assertIsInstance(got, Web)
            self.assertIs(Dearer(web) == Dearer(web=web, by=1), True)
            self.same(web.form, form)

    def test_by(self):
        for by in (None, True, False, 0, -1, '1', (), (1,), [1], []):
            self.fails(NotUsable('by', -1), Dearer, Web.plain(1), by=by)
        with self.assertRaises(TypeError):
            Dearer(Web.plain(1), 2)

    def test_of_dearer_webs(self):
        web = Web.plain(1, 2)
        twice = Dearer(Dearer(web, by=2), by=3)
        self.same(twice.form, ((('a', 6, False, ('b',)), ('b', 7, False, ())), 'a'))
        self.same(twice.source.form, ((('a', 3, False, ('b',)), ('b', 4, False, ())), 'a'))
        self.assertIs(twice.source.source, web)
        self.same((twice['b'], twice('a'), len(twice), list(twice)), (('b', 7, False, ()), ('b',), 2, ['a', 'b']))


class EmptiedTest(Case):

    def test_kinds_that_have_not_the_thing(self):
        web = Web(*HELD)
        for names in ((), ('b',), ('c',), ('b', 'c'), ('c', 'b'), ('b', 'b'), ('c', 'b', 'c', 'c')):
            got = Emptied(web, *names)
            rows = tuple((name, fee, has and name not in names, table) for name, fee, has, table in HELD[0])
            self.same(got.form, (rows, 'a'))
            self.assertIs(got.source, web)
            self.assertIs(type(got), Emptied)
            self.assertIsInstance(got, Web)
        self.same(web.form, HELD)
        self.assertIs(Emptied(web=web).source, web)

    def test_names(self):
        web = Web(*HELD)
        for wrong in (*JUNK, 'a', 'd', 'B', ('b',), ['b'], 0, HELD[0][1]):
            self.fails(NotUsable('names', 0), Emptied, web, wrong)
            self.fails(NotUsable('names', 0), Emptied, web, wrong, 'a', 'b')
            self.fails(NotUsable('names', 1), Emptied, web, 'b', wrong)
            self.fails(NotUsable('names', 2), Emptied, web, 'b', 'b', wrong, wrong)
            self.fails(NotUsable('names', 3), Emptied, web, 'b', 'c', 'b', wrong, 'c')

    def test_of_emptied_webs(self):
        web = Web(*HELD)
        once = Emptied(web, 'b')
        twice = Emptied(once, 'c')
        self.assertIs(twice.source, once)
        self.assertIs(twice == Emptied(web, 'b', 'c'), True)
        self.fails(NotUsable('names', 0), Emptied, once, 'b')
        self.same(Dearer(twice)['c'], ('c', 4, False, ('a', 'c')))

    def test_source_in_each_class_itself(self):
        for derived in (Dearer, Emptied):
            self.assertEqual(derived.__bases__, (Web,))
            self.assertIsInstance(vars(derived)['source'], property)


if __name__ == '__main__':
    unittest.main()
