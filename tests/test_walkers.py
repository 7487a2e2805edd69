import unittest

from firstletter.errors import LetterError, NothingToUndo, NotUsable
from firstletter.runclasses import Run
from firstletter.walkers import Walker
from tests.examples import (A, ALIKE, ALONE, B, C, Case, D, JUNK, LONG, MIXED, NEAR, NO_LETTERS, NO_MARKS, NO_NUMBERS,
                            ONES)
from tests.oracle import SETTINGS, after, all_runs
from tests.test_stories import NO_RUNS

SETTING = (NEAR, ONES, 2)
NAMES = ('waiting_now', 'takings_now', 'missed_now', 'tree_now', 'over_now')
# None of these is on its way at the beginning, after one or after all letters of LONG.
WRONG = (*NO_LETTERS, *JUNK, LONG, (B, C), (D, A), (A, A), (('a', False), B), (A, ('b', False)), (('a', False), ('d', False)),
         'a:0>b:0', [A, B], [A, D], ([*A], B), (A, [*B]))


def told(walker):
    """All that a Walker tells of itself."""
    return [walker.path] + [getattr(walker, name) for name in NAMES]


def at(web, numbers, marks, made):
    """A Walker at this run."""
    walker = Walker(web, numbers, marks)
    walker.set_made(made)
    return walker


def least_way(web, numbers, marks, made):
    """The run to which the least letter on its way, again and again, leads."""
    while True:
        waiting = after(web, numbers, marks, made)[2]
        if not waiting:
            return made
        made = (*made, min(waiting))


class WalkerTest(Case):

    def is_at(self, walker, setting, made):
        """A Walker tells the same as a Run."""
        run = Run(*setting, made)
        self.same(told(walker), [made] + [getattr(run, name) for name in NAMES])

    def test_example(self):
        walker = Walker(*SETTING)
        self.same([walker.tried((A, D)), walker.go((A, B)), walker.finish()[1:], walker.missed_now],
                  [((A, 2), (D, 1)), True, ((B, C), (D, B)), ()])

    def test_beginning(self):
        for setting in SETTINGS:
            self.is_at(Walker(*setting), setting, ())
        self.is_at(Walker(marks=2, numbers=ONES, web=NEAR), SETTING, ())
        self.refuses(Walker, NEAR, ('numbers', ONES, NO_NUMBERS), ('marks', 2, NO_MARKS))

    def test_go(self):
        for setting in SETTINGS:
            for made in list(all_runs(*setting, 15))[:80]:
                walker, other = Walker(*setting), Walker(*setting)
                for k, letter in enumerate(made):
                    before = after(*setting, made[:k])[0]
                    self.assertIs(self.kept_letter(walker, letter), letter[1] not in before)
                    same = other
                    other += letter
                    self.assertIs(other, same)
                    self.is_at(walker, setting, made[:k + 1])
                    self.same(told(other), told(walker))

    def kept_letter(self, walker, letter):
        copied = ((*letter[0],), (*letter[1],))
        taken = walker.go(letter=letter)
        self.same(letter, copied)
        return taken

    def test_refused_letters_change_nothing(self):
        def add(walker, letter):
            walker += letter
        for made in (LONG[:0], LONG[:1], LONG):
            walker = at(*SETTING, made)
            for wrong in (*WRONG, *made, walker):
                for move in (walker.go, lambda letter: add(walker, letter)):
                    with self.assertRaises(NotUsable) as caught:
                        move(wrong)
                    self.assertEqual((caught.exception.word, caught.exception.at), ('letter', -1))
            self.is_at(walker, SETTING, made)

    def test_finish(self):
        for setting in SETTINGS:
            for made in list(all_runs(*setting, 10))[:40]:
                walker = at(*setting, made)
                is_over = walker.over_now
                letters = walker.finish()
                self.same(made + letters, least_way(*setting, made))
                self.is_at(walker, setting, made + letters)
                self.assertIs(walker.over_now, True)
                self.assertIs(letters == (), is_over)
                self.same(walker.finish(), ())
                self.is_at(walker, setting, made + letters)

    def test_twelve_stores(self):
        walker = Walker(ALIKE, (12,), 12)
        self.same(len(walker.finish()), 132)
        self.same([walker.over_now, walker.missed_now, len(walker.path)], [True, (), 132])
        self.same(walker.undo(), (('s', 11), ('s', 10)))

    def test_undo(self):
        for setting in SETTINGS[:20]:
            walker = Walker(*setting)
            made = walker.finish()
            for k in range(len(made) - 1, -1, -1):
                self.same(walker.undo(), made[k])
                self.is_at(walker, setting, made[:k])
            self.nothing(walker)
            self.is_at(walker, setting, ())

    def nothing(self, walker):
        with self.assertRaises(NothingToUndo) as caught:
            walker.undo()
        self.same(caught.exception.steps, 0)

    def test_undo_of_nothing(self):
        for walker in (Walker(*SETTING), Walker(ALONE, (1,), 9), Walker(NEAR, ONES, 0)):
            before = told(walker)
            self.nothing(walker)
            self.same(told(walker), before)

    def test_undo_behind_each_move(self):
        walker = Walker(*SETTING)
        walker.go(LONG[0])
        self.same(walker.undo(), LONG[0])
        walker += LONG[0]
        walker.go(LONG[1])
        self.same(walker.undo(), LONG[1])
        self.is_at(walker, SETTING, LONG[:1])
        self.same(walker.finish(), ((A, B), (B, C), (D, B)))
        self.same([walker.undo(), walker.undo()], [(D, B), (B, C)])
        self.is_at(walker, SETTING, (LONG[0], (A, B)))
        walker.path = LONG
        self.same([walker.undo(), walker.undo()], [LONG[2], LONG[1]])
        self.is_at(walker, SETTING, LONG[:1])
        walker.set_made(LONG[:2])
        self.same(walker.undo(), LONG[1])
        walker.set_made(())
        self.nothing(walker)
        walker.path = LONG[:2]
        self.same(walker.go(LONG[2]), False)
        self.same([walker.undo(), walker.undo(), walker.undo()], [LONG[2], LONG[1], LONG[0]])
        self.nothing(walker)
        with walker.trial():
            walker.path = LONG[:2]
            self.same(walker.undo(), LONG[1])
        self.nothing(walker)

    def test_another_run(self):
        walker = Walker(*SETTING)
        for made in all_runs(*SETTING, 10 ** 6):
            self.assertIsNone(walker.set_made(made=made))
            self.is_at(walker, SETTING, made)
            walker.set_made(())
            walker.path = made
            self.is_at(walker, SETTING, made)

    def test_no_run(self):
        def assign(walker, made):
            walker.path = made
        walker = at(*SETTING, LONG[:2])
        for wrong in (*NO_RUNS, walker, Run(*SETTING, LONG)):
            for move in (walker.set_made, lambda made: assign(walker, made)):
                with self.assertRaises(NotUsable) as caught:
                    move(wrong)
                self.assertEqual((caught.exception.word, caught.exception.at), ('made', -1))
        self.is_at(walker, SETTING, LONG[:2])

    def test_properties_are_not_assigned(self):
        walker = Walker(*SETTING)
        for name in NAMES:
            self.assertIsInstance(vars(Walker)[name], property)
            with self.assertRaises(AttributeError):
                setattr(walker, name, ())


class TrialTest(Case):

    def test_all_is_taken_back(self):
        for made in (LONG[:0], LONG[:1], LONG):
            walker = at(*SETTING, made)
            before = told(walker)
            with walker.trial() as same:
                self.assertIs(same, walker)
                self.same(told(walker), before)
                same.finish()
                walker.undo()
                walker.path = ()
                walker += (A, B)
                walker.go((B, C))
                self.same(walker.path, ((A, B), (B, C)))
            self.same(told(walker), before)

    def test_after_an_error(self):
        class Stop(Exception):
            pass
        walker = at(*SETTING, LONG[:1])
        before = told(walker)
        for error in (Stop, KeyError, LetterError, StopIteration, KeyboardInterrupt):
            with self.assertRaises(error):
                with walker.trial():
                    walker.finish()
                    raise error()
            self.same(told(walker), before)
        with self.assertRaises(NotUsable):
            with walker.trial():
                walker.go(LONG[1])
                walker.go(LONG[1])
        self.same(told(walker), before)
        with self.assertRaises(NothingToUndo):
            with walker.trial():
                walker.undo()
                walker.undo()
        self.same(told(walker), before)

    def test_within_one_another(self):
        walker = Walker(*SETTING)
        with walker.trial():
            walker.go(LONG[0])
            with walker.trial() as inner:
                inner.go(LONG[1])
                with inner.trial():
                    walker.finish()
                    self.same(walker.path, LONG)
                self.same(walker.path, LONG[:2])
                with self.assertRaises(ZeroDivisionError):
                    with walker.trial():
                        walker.path = ()
                        raise ZeroDivisionError()
                self.same(walker.path, LONG[:2])
            self.same(walker.path, LONG[:1])
            walker.go(LONG[2])
        self.same(walker.path, ())

    def test_what_is_done_ahead_of_the_block_stays(self):
        walker = Walker(*SETTING)
        trial = walker.trial()
        walker.go(LONG[0])
        with trial:
            walker.go(LONG[1])
        self.same(walker.path, LONG[:1])
        walker.go(LONG[1])
        with trial:
            walker.go(LONG[2])
            with trial as same:
                same.path = ()
            self.same(walker.path, LONG)
        self.same(walker.path, LONG[:2])

    def test_a_way_out_of_the_block(self):
        def leave(walker):
            for letter in LONG:
                with walker.trial():
                    walker.go(letter)
                    return walker.takings_now
        walker = Walker(*SETTING)
        self.same(leave(walker), ((A, 2), (D, 1)))
        self.same(walker.path, ())

    def test_two_walkers(self):
        one, other = Walker(*SETTING), Walker(*SETTING)
        with one.trial():
            one.go(LONG[0])
            other.go(LONG[2])
        self.same((one.path, other.path), ((), LONG[2:]))


class TriedTest(Case):

    def test_good_letters(self):
        for setting in SETTINGS:
            for made in list(all_runs(*setting, 10))[:30]:
                for k in range(len(made) + 1):
                    walker = at(*setting, made[:k])
                    before = told(walker)
                    self.same(walker.tried(*made[k:]), Run(*setting, made).takings_now)
                    self.same(told(walker), before)

    def test_of_nothing(self):
        walker = Walker(*SETTING)
        self.same(walker.tried(), ((A, 2),))
        walker.finish()
        self.same(walker.tried(), walker.takings_now)
        self.same(Walker(MIXED, (1, 1, 1), 0).tried(), ((('b', 0), 0),))

    def test_bad_letters(self):
        walker = Walker(*SETTING)
        for wrong in WRONG:
            for k in range(3):
                for rest in ((), LONG[k:], (None,)):
                    self.refuses_letters(k, walker, *LONG[:k], wrong, *rest)
            if wrong != (B, C):
                self.refuses_letters(1, walker, (A, B), wrong, (A, D))
        self.refuses_letters(1, walker, LONG[0], LONG[0])
        self.refuses_letters(3, walker, *LONG, LONG[0])
        self.refuses_letters(0, walker, *LONG[1:])
        walker.go(LONG[0])
        self.refuses_letters(0, walker, *LONG)
        self.refuses_letters(2, walker, *LONG[1:], C)

    def refuses_letters(self, k, walker, *letters):
        before = told(walker)
        with self.assertRaises(NotUsable) as caught:
            walker.tried(*letters)
        self.assertEqual((caught.exception.word, caught.exception.at), ('letters', k))
        self.same(told(walker), before)

    def test_within_a_trial(self):
        walker = Walker(*SETTING)
        with walker.trial():
            walker.go(LONG[0])
            self.same(walker.tried(*LONG[1:]), Run(*SETTING, LONG).takings_now)
            self.same(walker.path, LONG[:1])
        self.same(walker.path, ())


if __name__ == '__main__':
    unittest.main()
