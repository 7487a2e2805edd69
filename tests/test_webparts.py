import unittest

from firstletter.errors import NotUsable
from firstletter.webparts import are_numbers, fee_of, has_of, names_of, senders_to, stores_of, table_of
from tests.examples import ALIKE, ALONE, Case, JUNK, MIXED, NEAR, ONES, RING, WEBS

OF_A_KIND = (fee_of, has_of, table_of, senders_to)


class WebPartsTest(Case):

    def test_examples(self):
        self.same([names_of(NEAR), table_of(NEAR, 'a'), senders_to(NEAR, 'b'), senders_to(RING, 'd'), has_of(NEAR, 'c')],
                  [('a', 'b', 'c', 'd'), ('b', 'd'), ('a', 'd'), ('a', 'd'), False])
        self.same([are_numbers(ALIKE, (3,)), are_numbers(ALIKE, (0,)), stores_of(NEAR, (2, 1, 1, 1))],
                  [True, False, (('a', 0), ('a', 1), ('b', 0), ('c', 0), ('d', 0))])

    def test_names(self):
        self.same([names_of(ALIKE), names_of(MIXED), names_of(ALONE)], [('s',), ('a', 'b', 'c'), ('q',)])
        self.same(names_of(web=RING), ('a', 'b', 'c', 'd'))

    def test_each_kind_of_each_web(self):
        for web in WEBS:
            for name, fee, has, table in web[0]:
                self.same(self.kept(fee_of, web, name), fee)
                self.same(self.kept(has_of, web, name), has)
                self.same(self.kept(table_of, web, name), table)
                sending = tuple(row[0] for row in web[0] if name in row[3])
                self.same(self.kept(senders_to, web, name), sending)

    def test_senders_with_the_thing_count(self):
        self.same([senders_to(MIXED, name) for name in 'abc'], [('b',), ('a', 'b', 'c'), ('a', 'b')])
        self.same([senders_to(ALIKE, 's'), senders_to(ALONE, 'q'), senders_to(NEAR, 'a')], [('s',), (), ()])

    def test_by_name(self):
        self.same([fee_of(kind='a', web=MIXED), has_of(kind='a', web=MIXED)], [3, True])
        self.same([table_of(kind='a', web=MIXED), senders_to(kind='a', web=MIXED)], [('b', 'c'), ('b',)])
        self.same([are_numbers(thing=(1,), web=ALIKE), stores_of(numbers=(1,), web=ALIKE)], [True, (('s', 0),)])

    def test_no_kind(self):
        for function in OF_A_KIND:
            for web in WEBS:
                for kind in (*JUNK, 'e', 'aa', 'A', ('a',), ['a'], 0, web, web[0][0], web[0], ('s', 0)):
                    self.fails(NotUsable('kind', -1), function, web, kind)

    def test_numbers(self):
        for thing, right in (((1, 1, 1), True), ((5, 10 ** 59, 1), True), ((1, 1), False), ((1, 1, 1, 1), False),
                             ((), False), ((1, 1, 0), False), ((0, 1, 1), False), ((1, -1, 1), False),
                             ((1, 1, True), False), ((True, 1, 1), False), ([1, 1, 1], False), ((1, 1, '1'), False),
                             ((1, 1, None), False), ((1, 1, [1]), False), ((1, 1, (1,)), False), (3, False),
                             ('111', False), (None, False), (True, False), ('abc', False), (('a', 'b', 'c'), False)):
            self.assertIs(self.kept(are_numbers, MIXED, thing), right, thing)
        self.assertIs(are_numbers(ALIKE, (1,)), True)
        self.assertIs(are_numbers(ALIKE, 1), False)
        self.assertIs(are_numbers(ALIKE, (True,)), False)

    def test_any_value_as_numbers(self):
        for web in WEBS:
            for thing in JUNK:
                self.assertIs(self.kept(are_numbers, web, thing), False, thing)
                self.fails(NotUsable('numbers', -1), stores_of, web, thing)

    def test_stores(self):
        self.same(self.kept(stores_of, MIXED, (1, 3, 2)),
                  (('a', 0), ('b', 0), ('b', 1), ('b', 2), ('c', 0), ('c', 1)))
        self.same(stores_of(NEAR, ONES), (('a', 0), ('b', 0), ('c', 0), ('d', 0)))
        self.same(stores_of(ALIKE, (200,)), tuple(('s', i) for i in range(200)))
        self.same(stores_of(ALONE, (1,)), (('q', 0),))

    def test_numbers_of_another_web(self):
        for numbers in ((1, 1), (1, 1, 1, 1), (1, 0, 1), (1, True, 1), [1, 1, 1], (1, 1, -1), None, 3):
            self.fails(NotUsable('numbers', -1), stores_of, MIXED, numbers)


if __name__ == '__main__':
    unittest.main()
