import unittest

from firstletter.webreadings import kind_read, numbers_read, web_read
from firstletter.webtexts import kind_text, numbers_text, table_text, web_text
from tests.examples import ALIKE, ALONE, Case, MIXED, NEAR, RING, WEBS


class WebTextsTest(Case):

    def test_tables(self):
        self.same(self.kept(table_text, ()), '-')
        self.same(self.kept(table_text, ('b',)), 'b')
        self.same(self.kept(table_text, ('a', 'ab', 'b')), 'a,ab,b')
        self.same(table_text(table=('abcdefgh', 'z')), 'abcdefgh,z')

    def test_kinds(self):
        self.same(self.kept(kind_text, ('b', 1, False, ('c',))), 'kind b 1 not c')
        self.same(kind_text(('b', 3, True, ())), 'kind b 3 has -')
        self.same(kind_text(kind=('abcdefgh', 10 ** 59, False, ('a', 'x', 'z'))), f'kind abcdefgh {10 ** 59} not a,x,z')
        self.same(kind_text(('a', 10, True, ('a',))), 'kind a 10 has a')

    def test_webs(self):
        self.same(self.kept(web_text, NEAR),
                  'kind a 1 not b,d\nkind b 1 not c\nkind c 1 not -\nkind d 1 not b\nasker a')
        self.same(web_text(RING), 'kind a 1 not b,d\nkind b 1 not c\nkind c 1 not -\nkind d 1 not b,d\nasker a')
        self.same(web_text(web=MIXED), 'kind a 3 has b,c\nkind b 2 not a,b,c\nkind c 1 not b\nasker b')
        self.same([web_text(ALIKE), web_text(ALONE)], ['kind s 1 not s\nasker s', 'kind q 2 not -\nasker q'])

    def test_what_the_readers_return_and_is_no_web(self):
        for text in ('kind b 3 has -\nkind a 1 not a,b\nasker c', 'asker c', 'kind a 1 has x,y\nkind a 2 not -\nasker a'):
            self.same(web_text(web_read(text)), text)
        self.same(web_text(((), 'c')), 'asker c')
        self.same(kind_text(kind_read('kind q 4 has r,s')), 'kind q 4 has r,s')

    def test_numbers(self):
        self.same(self.kept(numbers_text, (2, 1, 10)), '2,1,10')
        self.same(numbers_text((1,)), '1')
        self.same(numbers_text(numbers=(10 ** 59, 5)), f'{10 ** 59},5')
        self.same(numbers_text(tuple(range(1, 2000))), ','.join(str(k) for k in range(1, 2000)))

    def test_read_back(self):
        for web in WEBS:
            self.same(web_read(web_text(web)), web)
            for row in web[0]:
                self.same(kind_read(kind_text(row)), row)
        for numbers in ((1,), (2, 1, 10), (10 ** 60 - 1, 9, 9), (100,) * 30):
            self.same(numbers_read(numbers_text(numbers)), numbers)


if __name__ == '__main__':
    unittest.main()
