import unittest
from itertools import product

from firstletter.finding import failing_run, is_surely_found
from firstletter.misses import can_miss
from firstletter.reach import near_of
from firstletter.runs import has_found, is_over, is_run
from firstletter.webchanges import with_has
from tests.examples import ALIKE, ALONE, B, Case, D, MIXED, NEAR, NO_MARKS, NO_NUMBERS, ONES, RING
from tests.oracle import CHAIN, HAVING, SETTINGS, all_runs
from tests.planoracle import (FREE, NUMBERED, ends, find, grown_closed_plans, has_room, names, near_kinds, row_of,
                              some_webs)

HAS = with_has(NEAR, 'c', True)
HUGE = 10 ** 20 - 1


def holders(web):
    return [row[0] for row in web[0] if row[2]]


# Each web of NUMBERED, and the same with one kind more that has the thing.
GIVEN = [(made, numbers, marks) for web, numbers, marks in NUMBERED
         for made in (web, *[with_has(web, kind, True) for kind in names(web) if kind not in (web[1], *holders(web))])]


class FindingTest(Case):

    def test_examples(self):
        self.same([is_surely_found(HAS, ONES, 2), is_surely_found(HAS, ONES, 3), failing_run(HAS, ONES, 3),
                   failing_run(HAS, ONES, 0)], [False, True, None, ()])
        self.same(is_surely_found(marks=3, numbers=ONES, web=HAS), True)
        self.check_run(HAS, ONES, 2, failing_run(marks=2, numbers=ONES, web=HAS))

    def check_run(self, web, numbers, marks, made):
        self.assertIs(is_run(web, numbers, marks, made), True)
        self.assertIs(is_over(web, numbers, marks, made), True)
        self.assertIs(has_found(web, numbers, marks, made), False)

    def test_beside_all_closed_trees(self):
        for web, numbers, marks in GIVEN:
            if len(web[0]) == 4 and sum(numbers) > 5:
                continue
            wanted = all(find(web, taken) for taken, _ in ends(web, numbers, marks))
            self.assertIs(self.kept(is_surely_found, web, numbers, marks), wanted)
            made = self.kept(failing_run, web, numbers, marks)
            if wanted:
                self.assertIsNone(made)
            else:
                self.check_run(web, numbers, marks, made)

    def test_beside_all_literal_runs(self):
        for web, numbers, marks in SETTINGS:
            if sum(numbers) < 5:
                runs = all_runs(web, numbers, marks, 10 ** 6)
                wanted = all(find(web, taken) for taken, _, waiting in runs.values() if not waiting)
                self.assertIs(is_surely_found(web, numbers, marks), wanted)

    def test_no_holders(self):
        for web in (NEAR, RING, ALIKE, ALONE, CHAIN):
            for marks in range(5):
                numbers = (2,) * len(web[0])
                self.assertIs(is_surely_found(web, numbers, marks), False)
                self.check_run(web, numbers, marks, failing_run(web, numbers, marks))

    def test_a_holder_in_the_table_of_the_asker(self):
        for kind, store in (('b', B), ('d', D)):
            web = with_has(NEAR, kind, True)
            for marks in range(1, 7):
                self.assertIs(is_surely_found(web, ONES, marks), True)
                self.assertIsNone(failing_run(web, ONES, marks))
            self.assertIs(is_surely_found(web, ONES, 0), False)
            self.same(failing_run(web, ONES, 0), ())
        self.same([is_surely_found(MIXED, (1, 1, 1), marks) for marks in range(4)], [False, False, True, True])
        self.same([is_surely_found(HAVING, (2, 2), marks) for marks in range(3)], [False, True, True])

    def test_numbers_matter(self):
        web = with_has(RING, 'c', True)
        self.same([is_surely_found(web, (1, 1, 1, number), 3) for number in (1, 2, 3)], [True, False, False])
        self.same(is_surely_found(web, (1, HUGE, HUGE, 1), 3), True)

    def test_beside_plans(self):
        for web in (FREE, HAVING, MIXED, HAS, with_has(RING, 'c', True), with_has(CHAIN, 'b', True),
                    *[web for web in some_webs(40) if holders(web)]):
            for marks in range(6):
                plans = [plan for plan in grown_closed_plans(web, marks)
                         if not any(row_of(web, kind)[2] for kind in near_kinds(web, plan))]
                for numbers in (*product((1, 2), repeat=len(web[0])), (HUGE,) * len(web[0])):
                    wanted = not any(has_room(web, numbers, plan) for plan in plans)
                    self.assertIs(is_surely_found(web, numbers, marks), wanted)

    def test_errors(self):
        for function in (is_surely_found, failing_run):
            self.refuses(function, HAS, ('numbers', ONES, NO_NUMBERS), ('marks', 2, NO_MARKS))


class ConsequencesTest(Case):

    def test_a_holder_that_cannot_be_missed(self):
        for web, numbers, marks in GIVEN:
            if any(not can_miss(web, numbers, marks, kind) for kind in holders(web)):
                self.assertIs(is_surely_found(web, numbers, marks), True)

    def test_no_holder_near(self):
        seen = 0
        for web, numbers, marks in GIVEN:
            near = near_of(web, marks)
            if not any(kind in near for kind in holders(web)):
                seen += bool(holders(web))
                self.assertIs(is_surely_found(web, numbers, marks), False)
                if sum(numbers) < 5:
                    self.assertFalse(any(find(web, taken) for taken, _ in ends(web, numbers, marks)))
        self.assertGreater(seen, 50)


if __name__ == '__main__':
    unittest.main()
