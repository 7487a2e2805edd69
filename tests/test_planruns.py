import unittest

from firstletter.errors import NotUsable
from firstletter.planruns import plan_of, tree_of_plan
from firstletter.plans import fits, is_closed
from firstletter.runs import is_over
from firstletter.trees import lets_tree, run_of_tree, tree_of
from tests import planoracle
from tests.examples import (A, ALIKE, ALONE, B, Case, D, LONG, MIXED, NEAR, NO_MARKS, NO_NUMBERS, ONES, RING)
from tests.oracle import HAVING, SETTINGS, all_runs, fault_of_tree, row_of
from tests.planoracle import NUMBERED, PLANNED, all_plans, ends, grown_closed_plans, others_of, senders
from tests.test_plans import NO_PLANS, ONCE, TWICE
from tests.test_stories import NO_RUNS

SOME = [setting for setting in NUMBERED if len(ends(*setting)) < 400]


class PlanOfTest(Case):

    def test_examples(self):
        self.same(plan_of(NEAR, ONES, 2, LONG), (('a', 2), ('d', 1)))
        self.fails(NotUsable('made', -1), plan_of, NEAR, ONES, 2, LONG[:1])
        self.same(plan_of(made=LONG, marks=2, numbers=ONES, web=NEAR), (('a', 2), ('d', 1)))

    def test_all_runs(self):
        for web, numbers, marks in SETTINGS:
            for run, (taken, _, waiting) in all_runs(web, numbers, marks, 100).items():
                setting = (web, numbers, marks, run)
                if waiting:
                    self.fails(NotUsable('made', -1), plan_of, *setting)
                    continue
                plan = self.kept(plan_of, *setting)
                self.same(plan, senders(web, taken))
                self.assertIs(is_closed(web, marks, plan), True)
                self.assertIs(fits(web, numbers, marks, plan), True)

    def test_who_has_enough_marks_sends(self):
        # Also if there is no other store to get a letter.
        self.same(plan_of(ALONE, (1,), 2, ()), (('q', 2),))
        self.same(plan_of(ALONE, (3,), 1, ()), ())
        self.same(plan_of(ALIKE, (1,), 3, ()), (('s', 3),))
        self.same(plan_of(NEAR, ONES, 0, ()), ())
        self.same(plan_of(HAVING, (1, 1), 3, ((A, B),)), (('a', 3),))

    def test_a_kind_with_several_marks(self):
        run = ((A, D), (D, ('d', 1)), (D, B), (A, B), (A, ('d', 1)), (('d', 1), B), (('d', 1), D), (B, ('c', 0)))
        self.same(plan_of(RING, (1, 1, 1, 2), 3, run), (('a', 3), ('b', 1), ('d', 1), ('d', 2)))

    def test_errors(self):
        self.refuses(plan_of, NEAR, ('numbers', ONES, NO_NUMBERS), ('marks', 2, NO_MARKS), ('made', LONG, NO_RUNS))


class TreeOfPlanTest(Case):

    def test_example(self):
        self.same(tree_of_plan(NEAR, (1, 2, 1, 1), 2, (('a', 2), ('d', 1))), ((B, D), (('b', 1), D), (D, A)))
        self.same(tree_of_plan(plan=(('a', 2), ('d', 1)), marks=2, numbers=ONES, web=NEAR), ((B, D), (D, A)))

    def test_all_closed_plans_that_fit(self):
        for web, numbers, marks in SOME:
            for plan in grown_closed_plans(web, marks):
                setting = (web, numbers, marks, plan)
                if not planoracle.has_room(web, numbers, plan):
                    self.fails(NotUsable('plan', -1), tree_of_plan, *setting)
                    continue
                self.check(*setting)

    def check(self, web, numbers, marks, plan):
        tree = self.kept(tree_of_plan, web, numbers, marks, plan)
        self.assertIsNone(fault_of_tree(web, numbers, marks, tree))
        self.same(lets_tree(web, numbers, marks, tree), len(tree))
        self.assertEqual(list(tree), sorted(tree))
        left = {(web[1], 0): marks}
        for _ in tree:
            for store, parent in tree:
                if parent in left:
                    left[store] = left[parent] - row_of(web, parent[0])[1]
        self.same(senders(web, left), plan)
        near = planoracle.near_kinds(web, plan)
        stores = [store for kind in near for store in others_of(web, numbers, kind)]
        self.assertEqual([store for store, _ in tree], stores)
        made = run_of_tree(web, numbers, marks, tree)
        self.assertIs(is_over(web, numbers, marks, made), True)
        self.same(tree_of(web, numbers, marks, made), tree)
        self.same(plan_of(web, numbers, marks, made), plan)

    def test_plans_of_closed_trees_are_the_closed_plans_that_fit(self):
        for web, numbers, marks in SOME:
            found = {senders(web, taken) for taken, _ in ends(web, numbers, marks)}
            wanted = {plan for plan in grown_closed_plans(web, marks) if planoracle.has_room(web, numbers, plan)}
            self.assertEqual(found, wanted)

    def test_plans_that_are_not_closed_or_do_not_fit(self):
        for web, marks in PLANNED:
            for number in (1, 2, 3):
                numbers = (number,) * len(web[0])
                for plan in all_plans(web, marks):
                    if planoracle.open_kinds(web, plan) or not planoracle.has_room(web, numbers, plan):
                        self.fails(NotUsable('plan', -1), tree_of_plan, web, numbers, marks, plan)
                    elif number < 3:
                        self.check(web, numbers, marks, plan)
        self.fails(NotUsable('plan', -1), tree_of_plan, RING, ONES, 3, TWICE)
        self.fails(NotUsable('plan', -1), tree_of_plan, RING, (1, 1, 1, 2), 3, ONCE)
        self.fails(NotUsable('plan', -1), tree_of_plan, ALIKE, (2,), 2, (('s', 2),))

    def test_more_stores(self):
        for numbers in ((1, 5, 1, 5), (5, 1, 1, 5), (1, 1, 5, 2), (3, 3, 3, 3)):
            self.check(RING, numbers, 3, TWICE)
            self.check(RING, numbers, 6, (('a', 6), ('b', 5), ('c', 4), ('d', 5)))
        self.check(ALIKE, (12,), 6, (('s', 1), ('s', 2), ('s', 3), ('s', 4), ('s', 5), ('s', 6)))
        self.check(ALIKE, (12,), 6, (('s', 5), ('s', 6)))
        self.check(MIXED, (2, 3, 2), 5, (('b', 3), ('b', 5), ('c', 3)))

    def test_marks_below_the_fee_of_the_asker(self):
        for web, marks in ((NEAR, 0), (MIXED, 1), (ALONE, 1)):
            self.same(tree_of_plan(web, (2,) * len(web[0]), marks, ()), ())

    def test_errors(self):
        self.refuses(tree_of_plan, RING, ('numbers', (1, 1, 1, 2), NO_NUMBERS), ('marks', 3, NO_MARKS),
                     ('plan', TWICE, NO_PLANS))


if __name__ == '__main__':
    unittest.main()
