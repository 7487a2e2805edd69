import unittest

from firstletter.errors import NotUsable
from firstletter.pictures import picture
from firstletter.stories import story_of
from firstletter.trees import tree_of
from tests.examples import (A, ALIKE, ALONE, B, C, Case, D, JUNK, LONG, MIXED, NEAR, NO_LETTERS, NO_MARKS, NO_NUMBERS,
                            ONES)
from tests.oracle import SETTINGS, after, all_runs, all_stores, row_of

NO_RUNS = (None, [], list(LONG), LONG[1:], LONG + LONG[:1], LONG[:1] * 2, LONG[0], A, *JUNK,
           *[(letter,) for letter in NO_LETTERS])


def story(web, numbers, marks, made):
    return list(story_of(web, numbers, marks, made))


class StoriesTest(Case):

    def test_example(self):
        self.same(list(story_of(NEAR, ONES, 2, LONG))[1:], [((D, B), 0, True), ((A, B), 1, False)])
        self.same(list(story_of(made=LONG[:1], marks=2, numbers=ONES, web=NEAR)), [((A, D), 1, True)])

    def test_a_generator(self):
        told = story_of(NEAR, ONES, 2, LONG)
        self.same(next(told), ((A, D), 1, True))
        self.same(next(told), ((D, B), 0, True))
        self.same(next(told), ((A, B), 1, False))
        with self.assertRaises(StopIteration):
            next(told)
        with self.assertRaises(StopIteration):
            next(story_of(NEAR, ONES, 2, ()))

    def test_errors_when_the_first_one_is_asked_for(self):
        for setting, word in (((NEAR, None, None, None), 'numbers'), ((NEAR, ONES, None, None), 'marks'),
                              ((NEAR, ONES, 2, None), 'made'), ((NEAR, ONES, 2, LONG[1:]), 'made')):
            told = story_of(*setting)
            with self.assertRaises(NotUsable) as caught:
                next(told)
            self.assertEqual((caught.exception.word, caught.exception.at), (word, -1))

    def test_all_stories(self):
        for web, numbers, marks in SETTINGS:
            for run, (taken, parents, _) in all_runs(web, numbers, marks, 60).items():
                told = self.kept(story, web, numbers, marks, run)
                wanted = []
                for k, (sender, store) in enumerate(run):
                    before = after(web, numbers, marks, run[:k])[0]
                    mark = before[sender] - row_of(web, sender[0])[1]
                    wanted.append(((sender, store), mark, store not in before))
                self.same(told, wanted)
                self.assertEqual(len([row for row in told if row[2]]), len(tree_of(web, numbers, marks, run)))

    def test_letters_to_the_asking_store_fall(self):
        self.same(story(ALIKE, (2,), 2, ((('s', 0), ('s', 1)), (('s', 1), ('s', 0)))),
                  [((('s', 0), ('s', 1)), 1, True), ((('s', 1), ('s', 0)), 0, False)])

    def test_errors(self):
        for function in (story, picture):
            self.refuses(function, NEAR, ('numbers', ONES, NO_NUMBERS), ('marks', 2, NO_MARKS), ('made', LONG, NO_RUNS))


class PicturesTest(Case):

    def test_example(self):
        self.same(picture(NEAR, ONES, 2, LONG[:2]),
                  'a         0   2   0\nb         0   0   1\nc         0   -   0\nd         0   1   0')
        self.same(picture(made=LONG, marks=2, numbers=ONES, web=NEAR),
                  'a         0   2   0\nb         0   0   0\nc         0   -   0\nd         0   1   0')

    def test_one_store_alone(self):
        self.same(picture(ALONE, (1,), 5, ()), 'q         0   5   0')
        self.same(picture(ALIKE, (1,), 0, ()), 's         0   0   0')

    def test_marks_below_the_fee_of_the_asker(self):
        self.same(picture(MIXED, (1, 1, 1), 1, ()), 'a         0   -   0\nb         0   1   0\nc         0   -   0')

    def test_wide_columns(self):
        web = ((('abcdefgh', 1, False, ('abcdefgh',)),), 'abcdefgh')
        self.same(picture(web, (11,), 100, ()).split('\n')[8:], ['abcdefgh  8   -   1', 'abcdefgh  9   -   1',
                                                                 'abcdefgh 10   -   1'])
        self.same(picture(web, (2,), 12, ()), 'abcdefgh  0  12   0\nabcdefgh  1   -   1')
        self.same(picture(web, (2,), 12345, ()), 'abcdefgh  0 12345   0\nabcdefgh  1   -   1')
        self.same(picture(web, (2,), 12345, ((('abcdefgh', 0), ('abcdefgh', 1)),)),
                  'abcdefgh  0 12345   1\nabcdefgh  1 12344   0')
        stores = [('s', i) for i in range(12)]
        run = tuple((stores[0], store) for store in stores[1:])
        lines = picture(ALIKE, (12,), 100, run).split('\n')
        self.same((lines[0], lines[9], lines[10]), ('s         0 100  11', 's         9  99  10', 's        10  99  10'))

    def test_all_pictures(self):
        for web, numbers, marks in SETTINGS:
            for run, (taken, _, waiting) in all_runs(web, numbers, marks, 60).items():
                lines = []
                for store in all_stores(web, numbers):
                    columns = [store[0].ljust(8), str(store[1]).rjust(2), str(taken.get(store, '-')).rjust(3),
                               str(len([letter for letter in waiting if letter[1] == store])).rjust(3)]
                    lines.append(' '.join(columns))
                drawn = self.kept(picture, web, numbers, marks, run)
                self.same(drawn, '\n'.join(lines))
                last = [int(line[-3:]) for line in drawn.split('\n')]
                self.assertEqual(any(last), len(waiting) > 0)

    def test_stores_that_are_missed(self):
        self.same(picture(NEAR, (1, 1, 2, 1), 2, LONG).split('\n')[2:],
                  ['c         0   -   0', 'c         1   -   0', 'd         0   1   0'])
        self.same(after(NEAR, (1, 1, 2, 1), 2, LONG)[2], [])
        self.assertNotIn(C, after(NEAR, ONES, 2, LONG)[0])


if __name__ == '__main__':
    unittest.main()
