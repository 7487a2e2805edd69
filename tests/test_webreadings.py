import re
import unittest

from firstletter.errors import InvalidText
from firstletter.webreadings import kind_read, numbers_read, web_read
from firstletter.webtexts import kind_text, numbers_text, web_text
from tests.examples import Case, WEBS

NAME = '[a-z]{1,8}'
FIGURES = '[1-9][0-9]{0,59}'
KIND = ('kind', NAME, FIGURES, 'has|not', f'-|{NAME}(,{NAME})*')
ASKER = ('asker', NAME)
SIXTY = '9' * 60
WORDS = ('', '-', 'a', 'b', 'kind', 'asker', 'has', 'not', '1', '0', '01', 'a,b', 'b,a', 'a,a', ',', 'a,', ',a', 'a,,b',
         'A', 'abcdefgh', 'abcdefghi', '1,2', '-1', '+1', '1.0', '1_0', 'Has', 'none', '\n', 'a\n', '1\n', '\n1', '-,a',
         'a,-', SIXTY, '1' + SIXTY, '0' + SIXTY, 'a,b,c', 'a,c,b', 'aa,b', 'b,aa', 'a;b', 'kind\n', 'not\n', '-\n')


def stands(pattern, word):
    """Whether a word can stand: a table is a set, so its names are ascending and different."""
    if re.fullmatch(pattern, word) is None:
        return False
    names = word.split(',')
    return pattern != KIND[4] or names == sorted(set(names))


def fault_of_words(patterns, words):
    """The index of the first word that cannot stand, or of the one that is missing; None if all is right."""
    for k, word in enumerate(words):
        if k >= len(patterns) or not stands(patterns[k], word):
            return k
    return len(words) if len(words) < len(patterns) else None


def fault_of_web(text):
    """The line and the field of the error that web_read raises; None if the text writes a pair."""
    lines = text.split('\n') if text else []
    for k, line in enumerate(lines):
        words = line.split(' ')
        is_asker = words[0] == 'asker'
        fault = fault_of_words(ASKER if is_asker else KIND, words)
        if fault is not None:
            return k, fault
        if is_asker:
            return None if k == len(lines) - 1 else (k + 1, 0)
    return len(lines), 0


def spoiled(words):
    """Lists of words that differ from this one: a word left out, doubled, moved, put in or changed."""
    for k in range(len(words)):
        yield words[:k] + words[k + 1:]
        yield words[:k + 1] + words[k:]
        for other in range(k):
            rest = words[:k] + words[k + 1:]
            yield rest[:other] + [words[k]] + rest[other:]
    for k in range(len(words) + 1):
        for word in WORDS:
            yield words[:k] + [word] + words[k:]
            yield words[:k] + [word] + words[k + 1:]


class KindReadTest(Case):

    def test_examples(self):
        self.same([kind_read('kind b 1 not c'), numbers_read('2,1,10'),
                   web_read('kind b 3 has -\nkind a 1 not a,b\nasker c')],
                  [('b', 1, False, ('c',)), (2, 1, 10), ((('b', 3, True, ()), ('a', 1, False, ('a', 'b'))), 'c')])
        self.fails(InvalidText(1, 4), web_read, 'kind a 1 not -\nkind b 1 not b,a\nasker a')

    def test_right_lines(self):
        self.same(kind_read('kind abcdefgh 10 has -'), ('abcdefgh', 10, True, ()))
        self.same(kind_read('kind kind 1 not has,kind,not'), ('kind', 1, False, ('has', 'kind', 'not')))
        self.same(kind_read(f'kind a {SIXTY} has a,aa,b'), ('a', 10 ** 60 - 1, True, ('a', 'aa', 'b')))
        self.same(kind_read('kind a 1000 not x', line=3, field=4), ('a', 1000, False, ('x',)))
        self.same(kind_read(field=4, line=3, text='kind a 1 not x'), ('a', 1, False, ('x',)))

    def test_faults(self):
        for text, field in (('', 0), (' ', 0), ('kind', 1), ('kind ', 1), ('kind a', 2), ('kind a 1', 3), ('kind a 1 not', 4),
                            ('kind a 1 not ', 4), ('kind a 1 not b ', 5), ('kind a 1 not b c', 5), (' kind a 1 not b', 0),
                            ('kind  a 1 not b', 1), ('kind a  1 not b', 2), ('kind a 1  not b', 3), ('kind a 1 not  b', 4),
                            ('kind a 1 not b\n', 4), ('kind a 1 not\nb', 3), ('\nkind a 1 not b', 0), ('asker a', 0),
                            ('kind a 0 not b', 2), ('kind a 01 not b', 2), ('kind a 00 not b', 2), ('kind a -1 not b', 2),
                            (f'kind a {SIXTY}9 not b', 2), (f'kind a 0{SIXTY} not b', 2), (f'kind a 0{SIXTY[1:]} not b', 2),
                            ('kind a 1 not b,a', 4), ('kind a 1 not a,a', 4), ('kind a 1 not a,', 4), ('kind a 1 not ,a', 4),
                            ('kind a 1 not -,a', 4), ('kind a 1 not --', 4), ('kind a 1 no -', 3), ('kind a 1 True -', 3),
                            ('kind A 0 x y,x z', 1), ('kind a 0 x y,x z', 2), ('kind a 1 x y,x z', 3), ('kinds a 1 not -', 0),
                            ('kind abcdefghi 1 not -', 1), ('kind a 1 not abcdefghi', 4), ('kind a 1 not -\n', 4)):
            self.fails(InvalidText(0, field), kind_read, text)
            self.fails(InvalidText(7, 10 + field), kind_read, text, line=7, field=10)
            self.fails(InvalidText(5, field), kind_read, text, line=5)
            self.fails(InvalidText(0, 3 + field), kind_read, text, field=3)

    def test_spoiled_lines(self):
        for line in ('kind a 1 not b,c', 'kind kind 12 has -', 'kind b 1 not not'):
            for words in spoiled(line.split(' ')):
                text = ' '.join(words)
                fault = fault_of_words(KIND, text.split(' '))
                if fault is None:
                    self.same(kind_text(kind_read(text)), text)
                else:
                    self.fails(InvalidText(2, 1 + fault), kind_read, text, line=2, field=1)

    def test_line_and_field_by_name_only(self):
        with self.assertRaises(TypeError):
            kind_read('kind a 1 not -', 0)
        with self.assertRaises(TypeError):
            numbers_read('1', 0)


class NumbersReadTest(Case):

    def test_right_words(self):
        for numbers in ((1,), (9,), (10,), (3, 2, 1), (1, 1, 1, 1), (10 ** 60 - 1, 10 ** 59), (2,) * 1000):
            self.same(numbers_read(numbers_text(numbers)), numbers)
        self.same(numbers_read('5,5', line=1, field=1), (5, 5))
        self.same(numbers_read(field=1, line=1, text='5'), (5,))

    def test_faults(self):
        for text, field in (('', 0), (' ', 0), ('0', 0), ('01', 0), ('1,0', 0), ('1,01', 0), ('1,', 0), (',1', 0), (',', 0),
                            ('1,,2', 0), ('-1', 0), ('-', 0), ('+1', 0), ('a', 0), ('1,a', 0), ('1\n', 0), ('\n1', 0),
                            ('1,\n2', 0), ('1, 2', 0), (' 1', 0), ('1 ', 1), ('1 2', 1), ('1,2 3', 1), ('1,2 x', 1),
                            ('0 1', 0), ('1  2', 1), ('1_0', 0), ('1.0', 0), (SIXTY + '9', 0), ('1,0' + SIXTY, 0),
                            ('1;2', 0), ('(1,2)', 0), ('1 \n', 1), ('0 0 0', 0), ('3 3 3', 1)):
            self.fails(InvalidText(0, field), numbers_read, text)
            self.fails(InvalidText(7, 10 + field), numbers_read, text, line=7, field=10)
            self.fails(InvalidText(4, field), numbers_read, text, line=4)
            self.fails(InvalidText(0, 2 + field), numbers_read, text, field=2)

    def test_spoiled_words(self):
        for words in spoiled(['1,22,3']):
            text = ' '.join(words)
            parts = text.split(' ')
            if re.fullmatch(f'{FIGURES}(,{FIGURES})*', parts[0]) is None:
                self.fails(InvalidText(0, 0), numbers_read, text)
            elif len(parts) > 1:
                self.fails(InvalidText(0, 1), numbers_read, text)
            else:
                self.same(numbers_text(numbers_read(text)), text)


class WebReadTest(Case):

    def test_what_is_no_web(self):
        self.same(web_read('asker a'), ((), 'a'))
        self.same(web_read('kind a 1 has x\nkind a 1 has x\nasker zz'),
                  ((('a', 1, True, ('x',)), ('a', 1, True, ('x',))), 'zz'))
        self.same(web_read(text='kind b 1 not -\nkind a 1 not -\nasker asker'),
                  ((('b', 1, False, ()), ('a', 1, False, ())), 'asker'))

    def test_faults(self):
        kind = 'kind a 1 not -'
        for text, line, field in (('', 0, 0), ('\n', 0, 0), (' ', 0, 0), (kind, 1, 0), (f'{kind}\n{kind}', 2, 0),
                                  (f'{kind}\n', 1, 0), (f'{kind}\n\n', 1, 0), ('asker a\n', 1, 0), ('asker a\n\n', 1, 0),
                                  (f'asker a\n{kind}', 1, 0), (f'{kind}\nasker a\nasker a', 2, 0),
                                  (f'{kind}\nasker a\n{kind}', 2, 0), (f'{kind}\n\nasker a', 1, 0),
                                  (f'\n{kind}\nasker a', 0, 0), ('asker', 0, 1), ('asker ', 0, 1), ('asker A', 0, 1),
                                  ('asker a ', 0, 2), ('asker a b', 0, 2), ('asker  a', 0, 1), (' asker a', 0, 0),
                                  (f'{kind}\nasker', 1, 1), (f'{kind}\nasker a b\nx', 1, 2), ('asker A\nx', 0, 1),
                                  (f'{kind} \nasker a', 0, 5), (f'{kind}\nkind b 0 not -\nasker', 1, 2),
                                  ('kind a 1 not\nasker a', 0, 4), ('kind\nasker a', 0, 1), ('x\nasker a', 0, 0),
                                  ('kind a 1 not - asker a', 0, 5), ('asker abcdefghi', 0, 1), ('askers a', 0, 0),
                                  ('asker a\n\nasker a', 1, 0), ('asker -', 0, 1)):
            self.assertEqual(fault_of_web(text), (line, field), text)
            self.fails(InvalidText(line, field), web_read, text)

    def test_spoiled_webs(self):
        for web in WEBS:
            lines = web_text(web).split('\n')
            for rows in spoiled(lines):
                self.check('\n'.join(rows))
            for k, line in enumerate(lines):
                for words in spoiled(line.split(' ')):
                    self.check('\n'.join(lines[:k] + [' '.join(words)] + lines[k + 1:]))

    def check(self, text):
        fault = fault_of_web(text)
        if fault is None:
            self.same(web_text(web_read(text)), text)
        else:
            self.fails(InvalidText(*fault), web_read, text)


if __name__ == '__main__':
    unittest.main()
