import re
import unittest

from firstletter.errors import InvalidText, NotUsable
from firstletter.runclasses import Run
from firstletter.runs import missed_after, takings_after, waiting_after
from firstletter.trees import tree_of
from tests.examples import (A, ALIKE, ALONE, B, C, Case, D, JUNK, LONG, NEAR, NO_LETTERS, NO_MARKS, NO_NUMBERS,
                            ONES, RING, shown)
from tests.oracle import SETTINGS, all_runs
from tests.test_stories import NO_RUNS

SETTING = (NEAR, ONES, 2)
RIGHT = tuple(all_runs(*SETTING, 10 ** 6))
NO_INDEXES = (None, True, False, -1, -3, '0', '', (0,), [0], A, 10 ** 59, -10 ** 59)
SIXTY = '9' * 60
WORD = re.compile('[a-z]{1,8}:(0|[1-9][0-9]{0,59})>[a-z]{1,8}:(0|[1-9][0-9]{0,59})')
WORDS = ('', '-', 'a:0', '>', ':', 'a:0>', '>a:0', 'a>b', 'a:0>b', 'a>b:0', 'a:0>b:', 'a:>b:0', ':0>b:0', 'a:0>:0',
         'a:00>b:0', 'a:0>b:00', 'a:01>b:0', 'a:0>b:01', 'A:0>b:0', 'a:0>B:0', 'a:-1>b:0', 'a:0>b:+1', 'a:0>b:0\n',
         '\na:0>b:0', 'a:0\n>b:0', 'a:0>\nb:0', 'a:0>b:0>c:0', 'a:0>>b:0', 'a::0>b:0', 'a:0>b::0', 'a:0:0>b:0',
         'a:0,b:0', 'a@0>b@0', 'a:0<b:0', 'a:0>b:1_0', 'a:0>b:x', 'abcdefghi:0>b:0', 'a:0>abcdefghi:0', 'a1:0>b:0',
         f'a:{SIXTY}0>b:0', f'a:0>b:{SIXTY}0', f'a:0>b:0{SIXTY}', 'a:0>b:None', "('a',0)>('b',0)",
         'a:0>d:0', 'a:0>b:0', 'd:0>b:0', 'x:0>y:0', 'a:0>a:0', f'abcdefgh:{SIXTY}>b:{SIXTY}', f'a:{SIXTY}>b:10')


def told(run):
    """All that a Run tells of itself."""
    return (run.made, run.waiting_now, run.takings_now, run.missed_now, run.tree_now, run.over_now, len(run), list(run),
            str(run))


def fault_of_text(text):
    """The index of the first word that cannot stand, or None."""
    words = text.split(' ') if text else []
    for k, word in enumerate(words):
        if WORD.fullmatch(word) is None:
            return k
    return None


class RunTest(Case):

    def test_examples(self):
        run = Run(NEAR, ONES, 2, LONG[:1])
        self.same([str(run), run.takings_now, run <= Run(NEAR, ONES, 2, LONG), Run.read(NEAR, ONES, 2, 'a:0>b:0').waiting_now],
                  ['a:0>d:0', ((A, 2), (D, 1)), True, ((A, D), (B, C))])

    def test_properties(self):
        for web, numbers, marks in SETTINGS:
            for letters in all_runs(web, numbers, marks, 40):
                setting = (web, numbers, marks, letters)
                run = self.kept(Run, *setting)
                waiting = waiting_after(*setting)
                self.same(run.made, letters)
                self.same(run.waiting_now, waiting)
                self.same(run.takings_now, takings_after(*setting))
                self.same(run.missed_now, missed_after(*setting))
                self.same(run.tree_now, tree_of(*setting))
                self.same(run.over_now, waiting == ())
                self.same((len(run), list(run), [letter for letter in run]), (len(letters), list(letters), list(letters)))
                self.same(str(run), ' '.join(f'{a}:{i}>{b}:{k}' for (a, i), (b, k) in letters))
                self.same(told(Run.read(web, numbers, marks, str(run))), told(run))

    def test_beginning(self):
        for web, numbers, marks in SETTINGS:
            run = Run(web, numbers, marks)
            self.same(told(run), told(Run(web, numbers, marks, ())))
            self.same((run.made, len(run), list(run), str(run), run.tree_now), ((), 0, [], '', ()))
            self.same(run.takings_now, (((web[1], 0), marks),))
        self.same(Run(letters=LONG[:2], marks=2, numbers=ONES, web=NEAR).made, LONG[:2])
        self.same(Run(ALONE, (1,), 9).over_now, True)
        self.same(Run(NEAR, ONES, 0).over_now, True)

    def test_errors(self):
        self.refuses(Run, NEAR, ('numbers', ONES, NO_NUMBERS), ('marks', 2, NO_MARKS), ('letters', LONG, NO_RUNS))
        self.fails(NotUsable('numbers', -1), Run, NEAR, (1, 1, 1), 2)
        self.fails(NotUsable('marks', -1), Run, NEAR, ONES, -1)

    def test_a_letter_more(self):
        for web, numbers, marks in SETTINGS:
            runs = all_runs(web, numbers, marks, 15)
            for letters, (_, _, waiting) in runs.items():
                run = Run(web, numbers, marks, letters)
                for letter in waiting:
                    more = run + letter
                    self.assertIs(type(more), Run)
                    self.same(told(more), told(Run(web, numbers, marks, (*letters, letter))))
                for letter in letters:
                    self.fails(NotUsable('letter', -1), lambda value: run + value, letter)
                self.same(told(run), told(Run(web, numbers, marks, letters)))

    def test_no_letter_more(self):
        for letters in (LONG[:0], LONG[:1], LONG):
            run = Run(*SETTING, letters)
            before = told(run)
            for wrong in (*NO_LETTERS, *JUNK, run, LONG, (B, C), (D, A), (A, A), (('a', False), B), (A, ('b', False)),
                          (('a', False), ('d', False)), str(run), 'a:0>b:0', [A, B], ([*A], B)):
                self.fails(NotUsable('letter', -1), lambda value: run + value, wrong)
            self.same(told(run), before)

    def test_items(self):
        for k in range(4):
            run = Run(*SETTING, LONG[:k])
            self.same([run[i] for i in range(k)], list(LONG[:k]))
            for wrong in (*NO_INDEXES, k, k + 1, -k, run, slice(0, 1), 0.0):
                self.fails(NotUsable('k', -1), lambda value: run[value], wrong)

    def test_membership(self):
        run = Run(*SETTING, LONG[:2])
        for letter in LONG[:2]:
            self.assertIs(letter in run, True)
        for thing in (LONG[2], LONG[:2], LONG, (D, A), A, 0, (('a', False), D), (A, ('d', False)), [A, D], ([*A], D),
                      run, *JUNK, *NO_LETTERS, 'a:0>d:0'):
            self.assertIs(thing in run, False, thing)
        alike = Run(ALIKE, (2,), 2, ((('s', 0), ('s', 1)),))
        self.assertIs((('s', 0), ('s', 1)) in alike, True)
        self.assertIs((('s', 0), ('s', True)) in alike, False)
        self.assertIs((('s', False), ('s', 1)) in alike, False)

    def test_equality_and_order(self):
        settings = [SETTING, (NEAR, ONES, 3), (NEAR, (1, 1, 1, 2), 2), (RING, ONES, 2), (NEAR, (1, 1, 2, 1), 2)]
        all_letters = [LONG[:k] for k in range(4)] + [LONG[2:], (LONG[2], LONG[0])]
        rows = [(setting, letters) for setting in settings for letters in all_letters]
        for setting, letters in rows:
            for other_setting, other_letters in rows:
                run, other = Run(*setting, letters), Run(*other_setting, other_letters)
                is_same = setting == other_setting
                self.assertIs(run == other, is_same and letters == other_letters)
                self.assertIs(run != other, not (is_same and letters == other_letters))
                begins = is_same and other_letters[:len(letters)] == letters
                self.assertIs(run <= other, begins)
                self.assertIs(other >= run, begins)
                self.same((told(run), told(other)), (told(Run(*setting, letters)), told(Run(*other_setting, other_letters))))
        run = Run(*SETTING, LONG)
        for thing in (*JUNK, LONG, list(LONG), str(run), SETTING, ()):
            self.assertIs(run == thing, False)
            self.assertIs(thing == run, False)
            self.assertIs(run != thing, True)
            with self.assertRaises(TypeError):
                self.assertTrue(run <= thing)
            with self.assertRaises(TypeError):
                self.assertTrue(run >= thing)

    def test_takings_and_missed_of_longer_runs(self):
        for web, numbers, marks in SETTINGS:
            for letters in all_runs(web, numbers, marks, 10):
                other = Run(web, numbers, marks, letters)
                for k in range(len(letters) + 1):
                    run = Run(web, numbers, marks, letters[:k])
                    self.assertIs(run <= other, True)
                    self.assertLessEqual(set(run.takings_now), set(other.takings_now))
                    self.assertLessEqual(set(other.missed_now), set(run.missed_now))

    def test_a_run_never_changes(self):
        run = Run(*SETTING, LONG[:1])
        before = told(run)
        kept = run
        run += LONG[1]
        self.assertIsNot(run, kept)
        self.same((told(kept), run.made), (before, LONG[:2]))
        for name in ('made', 'waiting_now', 'takings_now', 'missed_now', 'tree_now', 'over_now'):
            self.assertIsInstance(vars(Run)[name], property)
            with self.assertRaises(AttributeError):
                setattr(kept, name, ())
        with self.assertRaises(TypeError):
            kept[0] = LONG[0]
        with self.assertRaises(TypeError):
            del kept[0]
        letters = list(kept)
        letters.clear()
        self.same(told(kept), before)
        self.assertNotEqual(shown(told(run)), shown(before))


class ReadTest(Case):

    def test_right_texts(self):
        self.same(Run.read(*SETTING, '').made, ())
        self.same(Run.read(*SETTING, 'a:0>d:0 d:0>b:0 a:0>b:0').made, LONG)
        self.same(Run.read(text='a:0>b:0', marks=2, numbers=ONES, web=NEAR).made, LONG[2:])
        stores = [('s', i) for i in range(12)]
        run = Run(ALIKE, (12,), 2, tuple((stores[0], store) for store in stores[:0:-1]))
        self.same(str(run)[:18], 's:0>s:11 s:0>s:10 ')
        self.same(Run.read(ALIKE, (12,), 2, str(run)).made, run.made)
        self.assertIs(type(Run.read(*SETTING, '')), Run)
        self.assertIsInstance(vars(Run)['read'], classmethod)

    def test_errors_ahead(self):
        no_texts = [thing for thing in JUNK if not isinstance(thing, str)] + [LONG, (), Run(*SETTING)]
        self.refuses(Run.read, NEAR, ('numbers', ONES, NO_NUMBERS), ('marks', 2, NO_MARKS), ('text', '', no_texts))
        self.fails(NotUsable('numbers', -1), Run.read, NEAR, (1,), 2, 'x')
        self.fails(NotUsable('marks', -1), Run.read, NEAR, ONES, True, 'x')

    def test_texts_with_faults(self):
        words = ['a:0>d:0', 'd:0>b:0', 'a:0>b:0']
        for k in range(4):
            for word in WORDS:
                for rest in (words[k:], words[k + 1:], ['', *words[k:]]):
                    text = ' '.join([*words[:k], word, *rest])
                    self.check(text)
        for text in (' ', '  ', ' '.join(words) + ' ', ' ' + ' '.join(words), '  '.join(words), '\n'.join(words),
                     ' '.join(words) + '\n', '\n', '-', 'None', *[' '.join(words)[:k] for k in range(24)],
                     *[' '.join(words)[:k] + ' '.join(words)[k + 1:] for k in range(23)]):
            self.check(text)

    def check(self, text):
        fault = fault_of_text(text)
        if fault is not None:
            self.fails(InvalidText(0, fault), Run.read, *SETTING, text)
            return
        letters = tuple((self.store(word.split('>')[0]), self.store(word.split('>')[1])) for word in text.split(' ') if text)
        if letters in RIGHT:
            self.same(Run.read(*SETTING, text).made, letters)
        else:
            self.fails(NotUsable('letters', -1), Run.read, *SETTING, text)

    def store(self, word):
        name, i = word.split(':')
        return name, int(i)


if __name__ == '__main__':
    unittest.main()
