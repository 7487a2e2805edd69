import unittest

from firstletter.misses import can_miss
from firstletter.misspapers import miss_paper
from tests.examples import ALIKE, ALONE, Case, MIXED, NEAR, NO_KINDS, NO_MARKS, NO_NUMBERS, ONES, RING
from tests.oracle import CHAIN, HAVING
from tests.planoracle import (FREE, NUMBERED, all_pairs, all_plans, can_be_missed, closed_plans, fault_of_paper, has_room,
                              names, near_kinds, some_webs)

SMALL = [(web, numbers, marks) for web, numbers, marks in NUMBERED if len(all_pairs(web, marks)) < 10]


class MissPaperTest(Case):

    def test_kinds_that_can_be_missed(self):
        self.same(miss_paper(NEAR, ONES, 2, 'c'), ('missed', (('a', 2), ('d', 1))))
        self.same(miss_paper(kind='c', marks=2, numbers=ONES, web=NEAR), ('missed', (('a', 2), ('d', 1))))
        self.same(miss_paper(RING, (1, 1, 1, 2), 3, 'c'), ('missed', (('a', 3), ('d', 1), ('d', 2))))
        self.same(miss_paper(NEAR, ONES, 0, 'b'), ('missed', ()))
        self.same(miss_paper(ALONE, (2,), 2, 'q'), ('missed', (('q', 2),)))

    def test_kinds_that_cannot(self):
        for setting in ((NEAR, ONES, 3, 'c'), (RING, ONES, 3, 'c'), (RING, (2, 2, 2, 1), 3, 'c'), (ALIKE, (9,), 3, 's')):
            paper = self.kept(miss_paper, *setting)
            self.same(paper[0], 'reached')
            self.assertIs(fault_of_paper(*setting, paper), False)

    def test_the_asker_with_one_store(self):
        for web, numbers, marks, kind in ((NEAR, ONES, 0, 'a'), (NEAR, ONES, 2, 'a'), (ALIKE, (1,), 3, 's'),
                                          (MIXED, (2, 1, 2), 4, 'b'), (ALONE, (1,), 0, 'q')):
            self.same(miss_paper(web, numbers, marks, kind), ('reached', ()))

    def test_all_papers(self):
        for web, numbers, marks in SMALL:
            for kind in names(web):
                self.check(web, numbers, marks, kind)
                self.assertIs(can_be_missed(web, numbers, marks, kind), can_miss(web, numbers, marks, kind))

    def check(self, web, numbers, marks, kind):
        paper = self.kept(miss_paper, web, numbers, marks, kind)
        wanted = can_miss(web, numbers, marks, kind)
        self.assertIs(type(paper), tuple)
        self.assertIs(fault_of_paper(web, numbers, marks, kind, paper), wanted)
        if not wanted:
            # No paper that says the other thing passes.
            for plan in all_plans(web, marks):
                self.assertIsNot(fault_of_paper(web, numbers, marks, kind, ('missed', plan)), True)

    def test_great_numbers(self):
        huge = 10 ** 20 - 1
        for web in (NEAR, RING, ALIKE, MIXED, HAVING, FREE, CHAIN, *some_webs(15)):
            many = len(web[0])
            for marks in range(5):
                if len(all_pairs(web, marks)) < 10:
                    for numbers in ((huge,) * many, (1,) * (many - 1) + (huge,), (2, *(huge,) * (many - 1))):
                        for kind in names(web):
                            self.check(web, numbers, marks, kind)

    def test_missed_just_if_some_plan_misses(self):
        for web, numbers, marks in SMALL:
            for kind in names(web):
                plans = [plan for plan in closed_plans(web, marks)
                         if has_room(web, numbers, plan) and kind not in near_kinds(web, plan)]
                is_alone = kind == web[1] and numbers[names(web).index(kind)] == 1
                wanted = 'missed' if plans and not is_alone else 'reached'
                self.same(miss_paper(web, numbers, marks, kind)[0], wanted)

    def test_errors(self):
        self.refuses(miss_paper, NEAR, ('numbers', ONES, NO_NUMBERS), ('marks', 2, NO_MARKS), ('kind', 'c', NO_KINDS))


if __name__ == '__main__':
    unittest.main()
