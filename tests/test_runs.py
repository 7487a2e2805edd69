import unittest

from firstletter.errors import InvalidPaper, NotUsable
from firstletter.runs import (has_found, is_over, is_run, lets_run, missed_after, takings_after, waiting_after)
from tests.examples import (A, ALIKE, ALONE, B, C, Case, D, JUNK, LONG, MIXED, NEAR, NO_LETTERS, NO_MARKS, NO_NUMBERS,
                            ONES, RING)
from tests.oracle import SETTINGS, after, all_runs, all_stores, row_of

TELLING = (waiting_after, takings_after, missed_after, is_over, has_found)
JUDGING = (is_run, lets_run)


class RunsTest(Case):

    def test_examples(self):
        self.same([lets_run(NEAR, ONES, 2, LONG), takings_after(NEAR, ONES, 2, LONG), missed_after(NEAR, ONES, 2, LONG)],
                  [3, ((A, 2), (B, 0), (D, 1)), (C,)])
        self.same([waiting_after(NEAR, ONES, 2, LONG[:2]), is_over(NEAR, ONES, 2, LONG[:2]), is_over(NEAR, ONES, 2, LONG)],
                  [((A, B),), False, True])
        self.fails(InvalidPaper('way', 0), lets_run, NEAR, ONES, 2, LONG[1:])

    def test_all_that_is_told_of_runs(self):
        for web, numbers, marks in SETTINGS:
            for run, (taken, _, waiting) in all_runs(web, numbers, marks, 150).items():
                call = (web, numbers, marks, run)
                self.assertIs(self.kept(is_run, *call), True)
                self.same(self.kept(lets_run, *call), len(run))
                self.same(self.kept(waiting_after, *call), tuple(waiting))
                self.same(self.kept(takings_after, *call), tuple(sorted(taken.items())))
                missed = tuple(store for store in all_stores(web, numbers) if store not in taken)
                self.same(self.kept(missed_after, *call), missed)
                self.assertIs(self.kept(is_over, *call), not waiting)
                found = any(row_of(web, store[0])[2] for store in taken)
                self.assertIs(self.kept(has_found, *call), found)

    def test_letters_that_are_not_on_their_way(self):
        for web, numbers, marks in SETTINGS:
            stores = all_stores(web, numbers)
            letters = [(store, other) for store in stores for other in stores]
            for run, (_, _, waiting) in list(all_runs(web, numbers, marks, 5).items())[:20]:
                for letter in letters:
                    more = run + (letter,)
                    self.assertIs(is_run(web, numbers, marks, more), letter in waiting)
                    self.assertIs(after(web, numbers, marks, more) is not None, letter in waiting)
                    if letter not in waiting:
                        self.fails(InvalidPaper('way', len(run)), lets_run, web, numbers, marks, more)
                        for function in TELLING:
                            self.fails(NotUsable('made', -1), function, web, numbers, marks, more)

    def test_by_name(self):
        more = {'marks': 2, 'numbers': ONES, 'web': NEAR}
        self.same([is_run(thing=LONG, **more), lets_run(thing=LONG, **more)], [True, 3])
        self.same([function(made=LONG[:1], **more) for function in TELLING],
                  [((A, B), (D, B)), ((A, 2), (D, 1)), (B, C), False, False])

    def test_marks_below_the_fee_of_the_asker(self):
        for web, numbers, marks in ((NEAR, ONES, 0), (ALONE, (3,), 1), (MIXED, (2, 2, 2), 1), (MIXED, (2, 2, 2), 0)):
            asking = (web[1], 0)
            others = tuple(store for store in all_stores(web, numbers) if store != asking)
            self.same([function(web, numbers, marks, ()) for function in TELLING], [(), ((asking, marks),), others, True, False])
            self.same([lets_run(web, numbers, marks, ()), is_run(web, numbers, marks, ((asking, asking),))], [0, False])

    def test_one_store_alone(self):
        for web in (ALIKE, ALONE):
            store = (web[1], 0)
            self.same([function(web, (1,), 9, ()) for function in TELLING], [(), ((store, 9),), (), True, False])
            self.fails(InvalidPaper('way', 0), lets_run, web, (1,), 9, ((store, store),))

    def test_a_sender_with_just_its_fee(self):
        web = ((('a', 3, False, ('b',)), ('b', 2, False, ('c',)), ('c', 1, False, ())), 'a')
        run = ((A, B), (B, C))
        self.same([is_run(web, (1, 1, 1), marks, run) for marks in (3, 4, 5, 6)], [False, False, True, True])
        self.same(takings_after(web, (1, 1, 1), 5, run), ((A, 5), (B, 2), (C, 0)))
        self.same(is_over(web, (1, 1, 1), 4, run[:1]), True)

    def test_the_asking_store_gets_letters_and_they_fall(self):
        run = ((B, ('c', 0)), (C, B))
        self.same(takings_after(MIXED, (1, 1, 1), 3, run), ((B, 3), (C, 1)))
        self.same(waiting_after(MIXED, (1, 1, 1), 3, run), ((B, A),))
        self.same(waiting_after(ALIKE, (2,), 2, ((('s', 0), ('s', 1)),)), ((('s', 1), ('s', 0)),))

    def test_who_has_the_thing_does_not_send(self):
        self.same(waiting_after(MIXED, (1, 1, 1), 9, ((B, A),)), ((B, C),))
        self.same([has_found(MIXED, (1, 1, 1), 9, ()), has_found(MIXED, (1, 1, 1), 9, ((B, A),))], [False, True])
        self.same(has_found(MIXED, (1, 1, 1), 9, ((B, C),)), False)

    def test_shape(self):
        for thing in (None, True, 0, '', 'ab', [], [LONG[0]], list(LONG)):
            self.fails(InvalidPaper('shape', -1), lets_run, NEAR, ONES, 2, thing)
            self.assertIs(self.kept(is_run, NEAR, ONES, 2, thing), False)
            for function in TELLING:
                self.fails(NotUsable('made', -1), function, NEAR, ONES, 2, thing)

    def test_no_letters(self):
        for wrong in NO_LETTERS:
            for k in range(4):
                thing = LONG[:k] + (wrong,) + LONG[k:]
                self.fails(InvalidPaper('letter', k), lets_run, NEAR, ONES, 2, thing)
                self.assertIs(self.kept(is_run, NEAR, ONES, 2, thing), False)
                for function in TELLING:
                    self.fails(NotUsable('made', -1), function, NEAR, ONES, 2, thing)

    def test_the_first_element_counts(self):
        for thing, word, at in (((LONG[0], LONG[0]), 'way', 1), (LONG + LONG[:1], 'way', 3), ((LONG[0], (A, C)), 'way', 1),
                                ((LONG[0], (A, A)), 'way', 1), (((B, C), None), 'way', 0), ((None, (B, C)), 'letter', 0),
                                ((LONG[0], ('x', A), LONG[0]), 'letter', 1), ((LONG[0], LONG[0], 'x'), 'way', 1),
                                ((LONG[0], (B, A), LONG[1]), 'way', 1), (((A, ('b', 1)), (B, C)), 'letter', 0),
                                (((D, B), (A, D)), 'way', 0), ((LONG[0], LONG[2], LONG[2]), 'way', 2)):
            self.fails(InvalidPaper(word, at), lets_run, NEAR, ONES, 2, thing)
        self.same(lets_run(NEAR, (1, 2, 1, 1), 2, ((A, ('b', 1)), (('b', 1), C))), 2)

    def test_any_value_as_a_run(self):
        for thing in JUNK:
            self.assertIs(self.kept(is_run, NEAR, ONES, 2, thing), False)
            at = ('letter', 0) if isinstance(thing, tuple) else ('shape', -1)
            self.fails(InvalidPaper(*at), lets_run, NEAR, ONES, 2, thing)

    def test_numbers_then_marks_then_made(self):
        for function in (*TELLING, *JUDGING):
            for numbers in NO_NUMBERS:
                self.fails(NotUsable('numbers', -1), function, NEAR, numbers, 2, LONG)
                self.fails(NotUsable('numbers', -1), function, NEAR, numbers, -1, None)
            for marks in NO_MARKS:
                self.fails(NotUsable('marks', -1), function, NEAR, ONES, marks, LONG)
                self.fails(NotUsable('marks', -1), function, NEAR, ONES, marks, None)
                self.fails(NotUsable('marks', -1), function, NEAR, ONES, marks, ())
                self.fails(NotUsable('numbers', -1), function, NEAR, (1, 1, 1), marks, ())

    def test_great_marks(self):
        self.same(takings_after(NEAR, ONES, 10 ** 59, LONG), ((A, 10 ** 59), (B, 10 ** 59 - 2), (D, 10 ** 59 - 1)))

    def test_hundred_and_thirty_two_letters(self):
        run = ()
        while not is_over(ALIKE, (12,), 12, run):
            waiting = waiting_after(ALIKE, (12,), 12, run)
            run += waiting[:1] if len(run) % 2 else waiting[-1:]
        self.same([lets_run(ALIKE, (12,), 12, run), missed_after(ALIKE, (12,), 12, run)], [132, ()])
        self.same(len(set(run)), 132)


class ConsequencesTest(Case):

    def test_consequences(self):
        for web, numbers, marks in SETTINGS:
            asking = (web[1], 0)
            for run in list(all_runs(web, numbers, marks, 40))[:150]:
                taken = dict(takings_after(web, numbers, marks, run))
                waiting = waiting_after(web, numbers, marks, run)
                self.assertTrue(is_run(web, numbers, marks, run[:-1]))
                self.assertEqual(len(set(run + waiting)), len(run + waiting))
                for store, mark in taken.items():
                    self.assertTrue(store == asking or mark <= marks - row_of(web, web[1])[1])
                self.same(is_over(web, numbers, marks, run), waiting == ())
                if waiting == ():
                    missed = missed_after(web, numbers, marks, run)
                    for store in all_stores(web, numbers):
                        others = [other for other in all_stores(web, numbers) if other[0] == store[0] and other != asking]
                        if store in missed:
                            self.assertTrue(all(other in missed for other in others))

    def test_the_same_kind_takes_different_marks(self):
        run = ((A, D), (D, ('d', 1)), (A, ('d', 1)))
        self.same(takings_after(RING, (1, 1, 1, 2), 3, run), ((A, 3), (D, 2), (('d', 1), 1)))


if __name__ == '__main__':
    unittest.main()
