import unittest
from itertools import product

from firstletter.counts import Count
from firstletter.letters import least_counts, least_letters, letters_of, most_letters
from firstletter.runs import is_over
from tests.examples import ALIKE, ALONE, Case, MIXED, NEAR, NO_MARKS, NO_NUMBERS, ONES, RING
from tests.oracle import CHAIN, HAVING, SETTINGS, all_runs, row_of, sends
from tests.planoracle import (FREE, NUMBERED, PLANNED, all_stores, closed_plans, ends, grown_closed_plans, least_sent,
                              letters_sent, names, some_webs, uses)
from tests.test_stories import NO_RUNS

HUGE = 10 ** 20 - 1
# The stores of a get the ask again, but one of them has too few marks then; all kinds send to themselves.
AGAIN = ((('a', 2, False, ('a', 'b')), ('b', 1, False, ('a', 'b'))), 'a')
SELVES = ((('a', 1, False, ('a', 'b')), ('b', 2, False, ('b', 'c')), ('c', 1, False, ('c',))), 'a')
WEBS = (NEAR, RING, ALIKE, MIXED, ALONE, HAVING, CHAIN, FREE, AGAIN, SELVES, *some_webs(15))
MORE = (*NUMBERED, *[(web, numbers, marks) for web in (AGAIN, SELVES) for numbers in product((1, 2), repeat=len(web[0]))
                     for marks in range(7)])


def worth(web, terms, numbers):
    return Count(terms).worth(*zip(names(web), numbers))


def points(web):
    """Numbers at which two counts of the web differ, if they differ at all."""
    return list(product((1, 2, 3), repeat=len(web[0])))


class LettersTest(Case):

    def test_examples(self):
        self.same([most_letters(NEAR, 3), str(Count(most_letters(ALIKE, 2))), Count(most_letters(ALIKE, 2)).worth(('s', 5))],
                  [((('b',), 1), (('b', 'c'), 1), (('b', 'd'), 1), (('d',), 1)), '-1*s + 1*s*s', 20])
        self.same([least_counts(ALIKE, 2), least_letters(ALIKE, (5,), 2), letters_of(ALIKE, (5,), 2, ())],
                  [(((1,), ((('s',), -1), (('s', 's'), 1))), ((2,), (((), -2), (('s',), 2)))), 8, 4])

    def test_by_name(self):
        self.same(most_letters(marks=3, web=NEAR), most_letters(NEAR, 3))
        self.same(least_counts(marks=2, web=ALIKE), least_counts(ALIKE, 2))
        self.same(least_letters(marks=2, numbers=(5,), web=ALIKE), 8)
        self.same(letters_of(made=(), marks=2, numbers=(5,), web=ALIKE), 4)

    def test_most_and_least_beside_all_closed_trees(self):
        for web, numbers, marks in MORE:
            sent = [letters_sent(web, numbers, taken) for taken, _ in ends(web, numbers, marks)]
            self.same(worth(web, self.kept(most_letters, web, marks), numbers), max(sent))
            self.same(self.kept(least_letters, web, numbers, marks), min(sent))

    def test_beside_all_literal_runs(self):
        for web, numbers, marks in SETTINGS:
            most = worth(web, most_letters(web, marks), numbers)
            least = least_letters(web, numbers, marks)
            runs = all_runs(web, numbers, marks, 10 ** 6 if sum(numbers) < 5 else 30)
            for run, (taken, _, waiting) in list(runs.items())[-400:]:
                sent = self.kept(letters_of, web, numbers, marks, run)
                self.same(sent, letters_sent(web, numbers, taken))
                self.same(sent, len(run) + len(waiting))
                self.assertLessEqual(sent, most)
                if not waiting:
                    self.assertGreaterEqual(sent, least)
            over = [len(run) for run, (_, _, waiting) in runs.items() if not waiting]
            if sum(numbers) < 5:
                self.same((max(over), min(over)), (most, least))

    def test_counts_are_counts(self):
        for web in WEBS:
            for marks in range(5):
                most = most_letters(web, marks)
                self.same(Count(most).terms, most)
                self.assertLessEqual(set(Count(most).names), set(names(web)))
                counts = least_counts(web, marks)
                self.assertIs(type(counts), tuple)
                self.assertEqual(list(counts), sorted(set(counts)))
                for numbers, terms in counts:
                    self.same(Count(terms).terms, terms)
                    self.assertTrue(all(type(number) is int and number >= 1 for number in numbers))
                    self.same(len(numbers), len(web[0]))

    def test_least_counts_beside_all_plans(self):
        for web, marks in PLANNED:
            self.check_counts(web, marks, closed_plans(web, marks))
        for web in WEBS:
            for marks in range(7 if len(web[0]) < 3 else 5):
                self.check_counts(web, marks, grown_closed_plans(web, marks))

    def check_counts(self, web, marks, plans):
        wanted = {(tuple(max(1, many) for many in uses(web, plan)),
                   tuple(least_sent(web, numbers, plan) for numbers in points(web))) for plan in plans}
        counts = self.kept(least_counts, web, marks)
        got = [(least, tuple(worth(web, terms, numbers) for numbers in points(web))) for least, terms in counts]
        self.assertEqual(len(got), len(set(got)))
        self.assertEqual(set(got), wanted)

    def test_least_is_the_least_worth(self):
        for web in WEBS:
            many = len(web[0])
            for marks in range(6):
                for numbers in ((1,) * many, (2,) * many, (3, *(1,) * (many - 1)), (HUGE,) * many, (*(1,) * (many - 1), HUGE)):
                    worths = [worth(web, terms, numbers) for least, terms in least_counts(web, marks)
                              if all(few <= number for few, number in zip(least, numbers))]
                    self.assertTrue(worths)
                    self.same(least_letters(web, numbers, marks), min(worths))

    def test_great_numbers(self):
        self.same(least_letters(ALIKE, (HUGE,), 2), 2 * (HUGE - 1))
        self.same(worth(ALIKE, most_letters(ALIKE, 2), (HUGE,)), HUGE * (HUGE - 1))
        self.same(worth(NEAR, most_letters(NEAR, 3), (1, HUGE, 2, 3)), HUGE + 3 + 2 * HUGE + 3 * HUGE)
        self.same(least_letters(NEAR, (HUGE, 2, 3, 4), 2), 2 + 4 + 4 * 2)

    def test_one_store_alone(self):
        for marks in range(4):
            self.same(least_letters(ALIKE, (1,), marks), 0)
            self.same(worth(ALIKE, most_letters(ALIKE, marks), (1,)), 0)
            self.same(letters_of(ALIKE, (1,), marks, ()), 0)
            self.same([most_letters(ALONE, marks), least_letters(ALONE, (3,), marks)], [(), 0])
        self.same(least_counts(ALONE, 2), (((1,), ()),))

    def test_marks_below_the_fee_of_the_asker(self):
        for web, marks in ((NEAR, 0), (ALIKE, 0), (MIXED, 1), (ALONE, 1), (CHAIN, 1), (AGAIN, 1)):
            many = len(web[0])
            self.same(most_letters(web, marks), ())
            self.same(least_counts(web, marks), (((1,) * many, ()),))
            self.same(least_letters(web, (3,) * many, marks), 0)
            self.same(letters_of(web, (3,) * many, marks, ()), 0)

    def test_kinds_that_send_to_themselves(self):
        self.same(str(Count(most_letters(SELVES, 9))), '-1*a + 1*a*a + 1*a*b + -1*b + 1*b*b + 1*b*c + -1*c + 1*c*c')
        self.same(str(Count(most_letters(AGAIN, 2))), '-1 + 1*a + 1*b')
        self.same(str(Count(most_letters(AGAIN, 4))), '-1*a + 1*a*a + 2*a*b + -1*b + 1*b*b')
        self.same(str(Count(most_letters(AGAIN, 3))), '-1 + 1*a + 1*a*b + 1*b*b')

    def test_errors(self):
        rows = (('numbers', ONES, NO_NUMBERS), ('marks', 2, NO_MARKS))
        for function in (most_letters, least_counts):
            self.refuses(function, NEAR, *rows[1:])
        self.refuses(least_letters, NEAR, *rows)
        self.refuses(letters_of, NEAR, *rows, ('made', (), NO_RUNS))


class ConsequencesTest(Case):

    def test_some_run_has_each(self):
        for web, numbers, marks in MORE:
            if sum(numbers) > 4:
                continue
            sent = [letters_sent(web, numbers, taken) for taken, _ in ends(web, numbers, marks)]
            self.assertIn(least_letters(web, numbers, marks), sent)
            self.assertIn(worth(web, most_letters(web, marks), numbers), sent)

    def test_a_run_that_is_over(self):
        for web, numbers, marks in SETTINGS:
            for run in list(all_runs(web, numbers, marks, 10))[:60]:
                if is_over(web, numbers, marks, run):
                    self.assertGreaterEqual(letters_of(web, numbers, marks, run), least_letters(web, numbers, marks))
                    self.same(letters_of(web, numbers, marks, run), len(run))

    def test_the_oracle_counts_letters(self):
        for web, numbers, marks in SETTINGS[:30]:
            for taken, _ in ends(web, numbers, marks):
                sent = [(store, other) for store in taken for other in all_stores(web, numbers)
                        if sends(web, store, taken[store], other)]
                self.same(letters_sent(web, numbers, taken), len(sent))
                for store, other in sent:
                    self.assertIn(other[0], row_of(web, store[0])[3])


if __name__ == '__main__':
    unittest.main()
