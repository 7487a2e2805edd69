import unittest
from itertools import product

from firstletter.errors import Missed
from firstletter.misses import can_miss, first_marks, least_numbers, missed_kinds, missing_run
from firstletter.plans import pairs_of
from firstletter.reach import best_marks, near_of
from firstletter.runs import is_over, is_run, missed_after
from tests import planoracle
from tests.examples import (ALIKE, ALONE, C, Case, MIXED, NEAR, NO_KINDS, NO_MARKS, NO_NUMBERS, ONES, RING)
from tests.oracle import CHAIN, HAVING, SETTINGS, all_runs, row_of
from tests.planoracle import FREE, NUMBERED, PLANNED, can_be_missed, ends, is_missed, names, others_of, some_webs

HUGE = 10 ** 20 - 1
FORKED = ((('a', 1, False, ('a', 'c')), ('b', 1, False, ('d',)), ('c', 1, False, ('a', 'c', 'd')),
           ('d', 1, False, ('b',))), 'a')


class ReachTest(Case):

    def test_examples(self):
        self.same([best_marks(NEAR, 3), best_marks(ALIKE, 3), near_of(NEAR, 1), near_of(NEAR, 0)],
                  [(-1, 2, 1, 2), (2,), ('b', 'd'), ()])
        self.same([best_marks(marks=3, web=RING), near_of(marks=3, web=RING)], [(-1, 2, 1, 2), ('b', 'c', 'd')])

    def test_letters_of_all_plans(self):
        for web, marks in PLANNED:
            left = [(kind, planoracle.leaves(web, pair)) for plan in planoracle.all_plans(web, marks) for pair in plan
                    for kind in row_of(web, pair[0])[3]]
            best = tuple(max([mark for other, mark in left if other == kind], default=-1) for kind in names(web))
            self.same(self.kept(best_marks, web, marks), best)
            near = [planoracle.near_kinds(web, plan) for plan in planoracle.all_plans(web, marks)]
            self.same(self.kept(near_of, web, marks), tuple(sorted({kind for kinds in near for kind in kinds})))

    def test_letters_of_runs(self):
        # As many stores as a letter with the best mark can need, and all letters that come in some run.
        for web in (NEAR, RING, ALIKE, HAVING, FREE, CHAIN, MIXED, *some_webs(12)):
            for marks in range(5):
                found = {}
                for numbers in product((1, 2), repeat=len(web[0])):
                    if sum(numbers) < 6:
                        for kind, mark in letters_of(web, numbers, marks):
                            found[kind] = max(mark, found.get(kind, -1))
                best = best_marks(web, marks)
                for kind, mark in zip(names(web), best):
                    self.assertLessEqual(found.get(kind, -1), mark)
                self.assertEqual([found.get(kind, -1) for kind in names(web)], list(best))
                self.same(near_of(web, marks), tuple(sorted(found)))

    def test_letters_of_runs_letter_by_letter(self):
        for web, numbers, marks in SETTINGS:
            best = dict(zip(names(web), best_marks(web, marks)))
            for run, (taken, _, waiting) in all_runs(web, numbers, marks, 30).items():
                for store, other in [*run, *waiting]:
                    self.assertLessEqual(taken[store] - row_of(web, store[0])[1], best[other[0]])

    def test_great_marks(self):
        self.same(best_marks(NEAR, 10 ** 59), (-1, 10 ** 59 - 1, 10 ** 59 - 2, 10 ** 59 - 1))
        self.same(best_marks(ALIKE, 10 ** 59), (10 ** 59 - 1,))
        self.same(near_of(RING, 10 ** 59), ('b', 'c', 'd'))

    def test_of_the_kind_of_the_asker(self):
        self.same(best_marks(NEAR, 9)[0], -1)
        self.same(best_marks(ALIKE, 1), (0,))
        self.same(best_marks(MIXED, 6), (4, 4, 4))
        self.same(best_marks(ALONE, 6), (-1,))
        self.same(best_marks(CHAIN, 4), (1, 1, 2))

    def test_errors(self):
        for function in (best_marks, near_of):
            self.refuses(function, NEAR, ('marks', 2, NO_MARKS))


def letters_of(web, numbers, marks):
    """The kinds and marks of all letters that are sent in runs that are over."""
    found = set()
    for taken, _ in ends(web, numbers, marks):
        for store, mark in taken.items():
            for kind in row_of(web, store[0])[3]:
                if any(planoracle.sends(web, store, mark, other) for other in planoracle.all_stores(web, numbers)
                       if other[0] == kind):
                    found.add((kind, mark - row_of(web, store[0])[1]))
    return found


class MissesTest(Case):

    def test_examples(self):
        self.same([can_miss(NEAR, ONES, 2, 'c'), missed_kinds(NEAR, ONES, 2), missed_kinds(NEAR, (2, 1, 1, 1), 2),
                   missed_kinds(NEAR, ONES, 1)], [True, ('c',), ('a', 'c'), ('c',)])
        self.same([least_numbers(NEAR, 2, 'c'), least_numbers(RING, 3, 'c'), least_numbers(NEAR, 2, 'a'),
                   least_numbers(NEAR, 3, 'c')], [((1, 1, 1, 1),), ((1, 1, 1, 2),), ((2, 1, 1, 1),), ()])
        self.same([missed_after(NEAR, ONES, 2, missing_run(NEAR, ONES, 2, 'c')), missing_run(NEAR, ONES, 3, 'c')],
                  [(C,), None])
        self.same([first_marks(NEAR, ONES, 3, 'c'), first_marks(ALIKE, (2,), 2, 's'), first_marks(ALIKE, (3,), 2, 's'),
                   first_marks(NEAR, ONES, 3, 'a')], [(0, 1), (1,), (0, 1), ()])

    def test_by_name(self):
        more = {'kind': 'c', 'marks': 2, 'numbers': ONES, 'web': NEAR}
        self.same(can_miss(**more), True)
        self.same(missed_after(NEAR, ONES, 2, missing_run(**more)), (C,))
        self.same(missed_kinds(marks=2, numbers=ONES, web=NEAR), ('c',))
        self.same(least_numbers(kind='c', marks=2, web=NEAR), (ONES,))
        self.same(first_marks(kind='b', marks=2, numbers=ONES, web=NEAR), (0, 1))

    def test_beside_all_literal_runs(self):
        for web, numbers, marks in SETTINGS:
            if sum(numbers) > 4:
                continue
            runs = all_runs(web, numbers, marks, 10 ** 6)
            taken = [row[0] for row in runs.values() if not row[2]]
            self.assertEqual({tuple(sorted(row.items())) for row in taken},
                             {tuple(sorted(row.items())) for row, _ in ends(web, numbers, marks)})
            for kind in names(web):
                wanted = any(is_missed(web, numbers, row, kind) for row in taken)
                self.assertIs(can_miss(web, numbers, marks, kind), wanted)

    def test_beside_all_closed_trees(self):
        for web, numbers, marks in NUMBERED:
            wanted = tuple(kind for kind in names(web) if can_be_missed(web, numbers, marks, kind))
            self.same(self.kept(missed_kinds, web, numbers, marks), wanted)
            for kind in names(web):
                self.assertIs(self.kept(can_miss, web, numbers, marks, kind), kind in wanted)
                self.check_run(web, numbers, marks, kind, kind in wanted)
                self.check_marks(web, numbers, marks, kind, kind in wanted)

    def check_run(self, web, numbers, marks, kind, is_missed_once):
        made = self.kept(missing_run, web, numbers, marks, kind)
        if not is_missed_once:
            self.assertIsNone(made)
            return
        self.check_missing(web, numbers, marks, kind, made)

    def check_missing(self, web, numbers, marks, kind, made):
        self.assertIs(is_run(web, numbers, marks, made), True)
        self.assertIs(is_over(web, numbers, marks, made), True)
        others = others_of(web, numbers, kind)
        self.assertTrue(others)
        self.assertLessEqual(set(others), set(missed_after(web, numbers, marks, made)))

    def check_marks(self, web, numbers, marks, kind, is_missed_once):
        if is_missed_once:
            with self.assertRaises(Missed) as caught:
                first_marks(web, numbers, marks, kind)
            self.same(caught.exception.kind, kind)
            self.check_missing(web, numbers, marks, kind, caught.exception.run)
            return
        wanted = {taken[store] for taken, _ in ends(web, numbers, marks) for store in others_of(web, numbers, kind)}
        got = self.kept(first_marks, web, numbers, marks, kind)
        self.same(got, tuple(sorted(wanted)))
        if got:
            self.same(got[-1], best_marks(web, marks)[names(web).index(kind)])

    def test_least_numbers(self):
        for web, numbers, marks in NUMBERED:
            for kind in names(web):
                least = least_numbers(web, marks, kind)
                self.assertEqual(list(least), sorted(set(least)))
                for row in least:
                    self.assertTrue(all(number >= 1 for number in row))
                    self.assertFalse(any(row != other and below(other, row) for other in least))
                wanted = any(below(row, numbers) for row in least)
                self.assertIs(can_be_missed(web, numbers, marks, kind), wanted)

    def test_least_numbers_beside_plans(self):
        for web, marks in PLANNED:
            for kind in names(web):
                self.same(self.kept(least_numbers, web, marks, kind), literal_least(web, marks, kind))

    def test_several_least_numbers(self):
        # What keeps the ask from b with 3 marks is a second store of a, or of c, that gets it too late.
        self.same(least_numbers(FORKED, 3, 'b'), ((1, 1, 2, 1), (2, 1, 1, 1)))
        self.same(least_numbers(FORKED, 4, 'b'), ((1, 1, 3, 1), (2, 1, 2, 1), (3, 1, 1, 1)))
        for marks in (2, 3, 4, 5):
            for kind in names(FORKED):
                self.same(least_numbers(FORKED, marks, kind), literal_least(FORKED, marks, kind))
        for numbers in (ONES, (2, 1, 1, 1), (1, 2, 1, 1), (1, 1, 2, 1), (1, 1, 1, 2), (2, 1, 2, 1)):
            wanted = can_be_missed(FORKED, numbers, 3, 'b')
            self.assertIs(can_miss(FORKED, numbers, 3, 'b'), wanted)
            self.assertIs(wanted, numbers[0] == 2 or numbers[2] == 2)
            self.check_run(FORKED, numbers, 3, 'b', wanted)

    def test_great_numbers(self):
        for web in (NEAR, RING, ALIKE, MIXED, HAVING, FREE, CHAIN, *some_webs(10)):
            many = len(web[0])
            for marks in range(5):
                for numbers in ((HUGE,) * many, (1,) * (many - 1) + (HUGE,), (HUGE,) + (1,) * (many - 1)):
                    missed = []
                    for kind in names(web):
                        wanted = any(below(row, numbers) for row in literal_least(web, marks, kind))
                        self.assertIs(can_miss(web, numbers, marks, kind), wanted)
                        missed += [kind] if wanted else []
                        if not wanted:
                            self.assertIsNone(missing_run(web, numbers, marks, kind))
                            self.same(first_marks(web, numbers, marks, kind), literal_marks(web, numbers, marks, kind))
                    self.same(missed_kinds(web, numbers, marks), tuple(missed))

    def test_the_kind_of_the_asker(self):
        self.same([can_miss(NEAR, ONES, 2, 'a'), can_miss(NEAR, (2, 1, 1, 1), 2, 'a')], [False, True])
        self.same([missing_run(NEAR, ONES, 2, 'a'), missing_run(NEAR, ONES, 0, 'a')], [None, None])
        self.same([first_marks(NEAR, ONES, 0, 'a'), first_marks(ALIKE, (1,), 9, 's')], [(), ()])
        self.same(missing_run(NEAR, (2, 1, 1, 1), 0, 'a'), ())
        self.same([least_numbers(ALIKE, 1, 's'), least_numbers(ALIKE, 0, 's')], [(), ((2,),)])
        self.same([can_miss(ALIKE, (HUGE,), 1, 's'), can_miss(ALIKE, (HUGE,), 0, 's')], [False, True])
        self.same(first_marks(ALIKE, (2,), 1, 's'), (0,))

    def test_marks_below_the_fee_of_the_asker(self):
        for web, marks in ((NEAR, 0), (MIXED, 1), (ALONE, 1)):
            many = len(web[0])
            others = tuple(kind for kind in names(web) if kind != web[1])
            self.same(missed_kinds(web, (1,) * many, marks), others)
            self.same(missed_kinds(web, (2,) * many, marks), tuple(names(web)))
            for kind in others:
                self.same(least_numbers(web, marks, kind), ((1,) * many,))
                self.same(missing_run(web, (1,) * many, marks, kind), ())
                self.fails(Missed((), kind), first_marks, web, (1,) * many, marks, kind)

    def test_kinds_that_do_not_lie_near(self):
        self.same(can_miss(ALONE, (2,), 5, 'q'), True)
        self.same(can_miss(CHAIN, (1, 1, 1), 2, 'b'), True)
        self.same(can_miss(CHAIN, (1, 1, 1), 3, 'b'), False)
        self.same(first_marks(NEAR, ONES, 1, 'b'), (0,))
        self.fails(Missed(missing_run(NEAR, ONES, 1, 'c'), 'c'), first_marks, NEAR, ONES, 1, 'c')

    def test_errors(self):
        rows = (('numbers', ONES, NO_NUMBERS), ('marks', 2, NO_MARKS), ('kind', 'c', NO_KINDS))
        for function in (can_miss, missing_run):
            self.refuses(function, NEAR, *rows)
        self.refuses(first_marks, NEAR, *rows[:2], ('kind', 'b', NO_KINDS))
        self.refuses(missed_kinds, NEAR, *rows[:2])
        self.refuses(least_numbers, NEAR, *rows[1:])


def below(least, numbers):
    """Whether numbers are, each, at least the others."""
    return all(few <= number for few, number in zip(least, numbers))


def literal_least(web, marks, kind):
    """The least numbers, found among all numbers up to one more than there can be uses."""
    plans = [plan for plan in planoracle.grown_closed_plans(web, marks) if kind not in planoracle.near_kinds(web, plan)]
    most = [max([2] + [planoracle.uses(web, plan)[k] for plan in plans]) for k in range(len(web[0]))]
    found = []
    for numbers in product(*[range(1, number + 1) for number in most]):
        is_there = kind != web[1] or numbers[names(web).index(kind)] > 1
        if is_there and any(planoracle.has_room(web, numbers, plan) for plan in plans):
            if not any(below(other, numbers) for other in found):
                found.append(numbers)
    return tuple(found)


def literal_marks(web, numbers, marks, kind):
    """What first_marks returns with great numbers: those with few more stores than pairs."""
    if not others_of(web, tuple(min(number, 2) for number in numbers), kind):
        return ()
    found = set()
    for plan in planoracle.grown_closed_plans(web, marks):
        if not planoracle.has_room(web, numbers, plan):
            continue
        i = names(web).index(kind)
        fee, has = row_of(web, kind)[1:3]
        for pair in plan:
            if planoracle.leads(web, pair, kind):
                mark = planoracle.leaves(web, pair)
                falls_quiet = has or mark < fee
                if (kind, mark) in plan or (falls_quiet and planoracle.uses(web, plan)[i] < numbers[i]):
                    found.add(mark)
    return tuple(sorted(found))


class ConsequencesTest(Case):

    def test_missed_stores(self):
        for web, numbers, marks in NUMBERED:
            if len(ends(web, numbers, marks)) > 300:
                continue
            missed = missed_kinds(web, numbers, marks)
            for taken, _ in ends(web, numbers, marks):
                kinds = {store[0] for store in planoracle.all_stores(web, numbers) if store not in taken}
                self.assertLessEqual(kinds, set(missed))
                for kind in kinds:
                    self.assertFalse(any(store in taken for store in others_of(web, numbers, kind)))

    def test_greater_numbers(self):
        for web in (NEAR, RING, ALIKE, MIXED, HAVING, FREE, CHAIN, *some_webs(20)):
            many = len(web[0])
            for marks in range(5):
                for numbers in product((1, 2), repeat=many):
                    for k in range(many):
                        self.check_more(web, numbers, (*numbers[:k], numbers[k] + 1, *numbers[k + 1:]), marks)

    def check_more(self, web, numbers, more, marks):
        missed, missed_more = missed_kinds(web, numbers, marks), missed_kinds(web, more, marks)
        self.assertLessEqual(set(missed), set(missed_more))
        for kind in names(web):
            if kind not in missed_more:
                self.assertLessEqual(set(first_marks(web, numbers, marks, kind)), set(first_marks(web, more, marks, kind)))

    def test_kinds_in_the_table_of_the_asker(self):
        for web, numbers, marks in NUMBERED:
            if pairs_of(web, marks) != ():
                for kind in row_of(web, web[1])[3]:
                    self.assertIs(can_miss(web, numbers, marks, kind), False)
                    self.same(least_numbers(web, marks, kind), ())


if __name__ == '__main__':
    unittest.main()
