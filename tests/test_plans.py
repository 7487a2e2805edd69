import unittest

from firstletter.errors import InvalidPaper, NotUsable
from firstletter.planchecker import lets_plan
from firstletter.plans import (closed_plans, fits, is_closed, is_plan, kinds_of, near_kinds, pairs_of, quiet_kinds,
                               uses_of)
from tests import planoracle
from tests.examples import ALIKE, ALONE, Case, JUNK, MIXED, NEAR, NO_MARKS, NO_NUMBERS, ONES, RING
from tests.oracle import HAVING
from tests.planoracle import PLANNED, all_pairs, all_plans, is_a_plan, subsets

ONCE, TWICE = (('a', 3), ('d', 2)), (('a', 3), ('d', 1), ('d', 2))
TELLING = (kinds_of, near_kinds, quiet_kinds, uses_of, is_closed)
# None of these is a plan of RING with 3 marks.
NO_PLANS = (*JUNK, (), list(TWICE), TWICE[1:], TWICE[:2], TWICE[::-1], (*TWICE, *TWICE), (TWICE[0], *TWICE), TWICE[0],
            (('a', 3), ['d', 2]), (['a', 3],), (('a', 3, 0),), (('a', '3'),), (('a', 3), None), (('a', 3), ('b', 0)),
            (('a', 3), ('d', True), ('d', 2)), (('a', 2),), (('a', 2), ('a', 3)), (('a', 3), ('c', 1)), (('a', 4),),
            (('a', 3), ('e', 2)), (('a', 3), ('b', 3)), (('d', 2),), {'a': 3}, {('a', 3)})
PLANS_OF = {(web, marks): all_plans(web, marks) for web, marks in PLANNED}


class PlansTest(Case):

    def test_examples(self):
        self.same([pairs_of(NEAR, 3), pairs_of(ALIKE, 2), pairs_of(NEAR, 0)],
                  [(('a', 3), ('b', 1), ('b', 2), ('c', 1), ('d', 2)), (('s', 1), ('s', 2)), ()])
        self.same([is_plan(NEAR, 3, (('a', 3), ('b', 1))), is_plan(NEAR, 3, (('a', 3), ('b', 1), ('d', 2))),
                   is_plan(NEAR, 0, ())], [False, True, True])
        self.same([kinds_of(RING, 3, TWICE), near_kinds(RING, 3, TWICE), quiet_kinds(RING, 3, TWICE), uses_of(RING, 3, TWICE)],
                  [('a', 'd'), ('b', 'd'), ('b', 'd'), (1, 0, 0, 2)])
        self.same([near_kinds(RING, 3, ONCE), quiet_kinds(RING, 3, ONCE)], [('b', 'd'), ()])
        self.same([closed_plans(NEAR, 2), closed_plans(NEAR, 0)],
                  [((('a', 2), ('b', 1), ('d', 1)), (('a', 2), ('d', 1))), ((),)])
        self.same([closed_plans(ALIKE, 2), is_closed(RING, 3, ONCE), is_closed(RING, 3, TWICE)],
                  [((('s', 1), ('s', 2)), (('s', 2),)), False, True])
        self.same([fits(ALIKE, (1,), 2, (('s', 2),)), fits(ALIKE, (2,), 2, (('s', 2),)),
                   fits(RING, (1, 1, 1, 1), 3, TWICE), fits(RING, (1, 1, 1, 2), 3, TWICE)], [True, False, False, True])

    def test_pairs(self):
        for web, marks in PLANNED:
            plans = PLANS_OF[web, marks]
            self.same(self.kept(pairs_of, web, marks), tuple(sorted({pair for plan in plans for pair in plan})))

    def test_all_sets_of_pairs(self):
        for web, marks in PLANNED:
            plans = PLANS_OF[web, marks]
            for pairs in subsets(all_pairs(web, marks)):
                self.assertIs(self.kept(is_plan, web, marks, pairs), pairs in plans)
                if len(pairs) > 1:
                    self.assertIs(is_plan(web, marks, pairs[::-1]), False)

    def test_sets_with_what_is_no_pair(self):
        for web, marks in PLANNED:
            others = [(row[0], mark) for row in web[0] for mark in range(-1, marks + 2)]
            others = [pair for pair in others if pair not in all_pairs(web, marks)]
            for plan in PLANS_OF[web, marks][:10]:
                for pair in others:
                    self.assertIs(is_plan(web, marks, tuple(sorted((*plan, pair)))), False)

    def test_parts_of_plans(self):
        for web, marks in PLANNED:
            for plan in PLANS_OF[web, marks]:
                call = (web, marks, plan)
                self.same(self.kept(kinds_of, *call), tuple(sorted({name for name, _ in plan})))
                self.same(self.kept(near_kinds, *call), planoracle.near_kinds(web, plan))
                self.same(self.kept(quiet_kinds, *call), planoracle.quiet_kinds(web, plan))
                self.same(self.kept(uses_of, *call), planoracle.uses(web, plan))
                self.assertIs(self.kept(is_closed, *call), planoracle.open_kinds(web, plan) == [])

    def test_fits(self):
        for web, marks in PLANNED:
            many = len(web[0])
            rows = [(1,) * many, (2,) * many, (3,) * many, (9,) * many]
            rows += [(1,) * k + (number,) + (1,) * (many - k - 1) for k in range(many) for number in (2, 3, 10 ** 20)]
            for plan in PLANS_OF[web, marks]:
                for numbers in rows:
                    wanted = planoracle.has_room(web, numbers, plan)
                    self.assertIs(self.kept(fits, web, numbers, marks, plan), wanted)

    def test_closed_plans(self):
        for web, marks in PLANNED:
            self.same(self.kept(closed_plans, web, marks), tuple(planoracle.closed_plans(web, marks)))
            self.same(planoracle.grown_closed_plans(web, marks), planoracle.closed_plans(web, marks))

    def test_by_name(self):
        self.same([pairs_of(marks=1, web=ALIKE), closed_plans(marks=1, web=ALIKE)], [(('s', 1),), ((('s', 1),),)])
        self.same(is_plan(thing=TWICE, marks=3, web=RING), True)
        self.same([function(plan=ONCE, marks=3, web=RING) for function in TELLING],
                  [('a', 'd'), ('b', 'd'), (), (1, 0, 0, 1), False])
        self.same(fits(plan=ONCE, marks=3, numbers=ONES, web=RING), True)

    def test_errors(self):
        for function in (pairs_of, closed_plans):
            self.refuses(function, RING, ('marks', 3, NO_MARKS))
        for function in (is_plan, lets_plan):
            self.refuses(function, RING, ('marks', 3, NO_MARKS), ('thing', TWICE, ()))
        for function in TELLING:
            self.refuses(function, RING, ('marks', 3, NO_MARKS), ('plan', TWICE, NO_PLANS))
        self.refuses(fits, RING, ('numbers', ONES, NO_NUMBERS), ('marks', 3, NO_MARKS), ('plan', TWICE, NO_PLANS))
        self.fails(NotUsable('plan', -1), is_closed, NEAR, 0, (('a', 0),))
        self.fails(NotUsable('plan', -1), fits, NEAR, ONES, 2, ONCE)

    def test_any_value_is_judged(self):
        for thing in NO_PLANS:
            self.assertIs(self.kept(is_plan, RING, 3, thing), False, thing)
        for thing in JUNK:
            self.assertIs(is_plan(RING, 0, thing), False)
            self.assertIs(is_plan(ALONE, 1, (thing,)), False)
        self.assertIs(is_plan(ALONE, 2, (('q', 2),)), True)
        self.assertIs(is_plan(ALONE, 2, ()), False)
        self.assertIs(is_plan(ALIKE, 1, (('s', True),)), False)
        self.assertIs(is_plan(ALIKE, 1, (('s', 1),)), True)

    def test_marks_below_the_fee_of_the_asker(self):
        for web, marks in ((NEAR, 0), (MIXED, 1), (ALONE, 1)):
            self.same((pairs_of(web, marks), closed_plans(web, marks)), ((), ((),)))
            for pair in (*all_pairs(web, 9), (web[1], marks)):
                self.assertIs(is_plan(web, marks, (pair,)), False)
            many = len(web[0])
            self.same([function(web, marks, ()) for function in TELLING], [(), (), (), (0,) * many, True])
            for number in (1, 2, 10 ** 20):
                self.assertIs(fits(web, (number,) * many, marks, ()), True)

    def test_great_marks(self):
        web = ((('a', 10 ** 30, False, ('b',)), ('b', 1, False, ('c',)), ('c', 10 ** 40, False, ('a',))), 'a')
        plan = (('a', 10 ** 59), ('b', 10 ** 59 - 10 ** 30), ('c', 10 ** 59 - 10 ** 30 - 1))
        self.same(is_plan(web, 10 ** 59, plan), True)
        self.same(is_plan(web, 10 ** 59 + 1, plan), False)
        self.same(is_plan(web, 10 ** 59, plan[:1] + plan[2:]), False)
        self.same(near_kinds(web, 10 ** 59, plan), ('a', 'b', 'c'))
        self.same(is_closed(web, 10 ** 59, plan), True)
        self.same(pairs_of(web, 10 ** 30), (('a', 10 ** 30),))
        self.same(quiet_kinds(web, 10 ** 30, (('a', 10 ** 30),)), ('b',))

    def test_twelve_pairs(self):
        web = ((('a', 1, False, ('a', 'b')), ('b', 1, False, ('a', 'b'))), 'a')
        pairs = pairs_of(web, 6)
        self.same(len(pairs), 11)
        plans = closed_plans(web, 6)
        self.assertEqual(list(plans), sorted(set(plans)))
        wanted = [(('a', 6), *rest) for rest in subsets([pair for pair in pairs if pair != ('a', 6)])]
        wanted = [tuple(sorted(plan)) for plan in wanted]
        wanted = [plan for plan in wanted if is_a_plan(web, 6, plan) and not planoracle.open_kinds(web, plan)]
        self.same(plans, tuple(sorted(wanted)))


class ConsequencesTest(Case):

    def test_plans(self):
        for web, marks in PLANNED:
            plans = PLANS_OF[web, marks]
            widest = pairs_of(web, marks)
            self.assertIn(widest, plans)
            has = [row[0] for row in web[0] if row[2]]
            for plan in plans:
                kinds, near = kinds_of(web, marks, plan), near_kinds(web, marks, plan)
                self.assertLessEqual(set(kinds) - {web[1]}, set(near))
                self.assertFalse(set(kinds) & set(has))
                self.assertLessEqual(set(plan), set(widest))
                for other in plans[:12]:
                    both = tuple(sorted({*plan, *other}))
                    self.assertIs(is_plan(web, marks, both), True)
                    self.assertLessEqual(set(near), set(near_kinds(web, marks, both)))
                    self.assertLessEqual(set(quiet_kinds(web, marks, plan)), set(quiet_kinds(web, marks, both)))

    def test_closed_plans(self):
        for web, marks in PLANNED:
            closed = closed_plans(web, marks)
            self.assertIn(pairs_of(web, marks), closed)
            for plan in closed:
                for other in closed[:12]:
                    self.assertIn(tuple(sorted({*plan, *other})), closed)
                alone = tuple(1 if name == web[1] else 10 for name in planoracle.names(web))
                self.assertTrue(fits(web, (10,) * len(alone), marks, plan) or fits(web, alone, marks, plan))
            for plan in PLANS_OF[web, marks]:
                self.same(plan in closed, is_closed(web, marks, plan))

    def test_more_stores_of_other_kinds(self):
        for web, marks in PLANNED:
            names = planoracle.names(web)
            for plan in PLANS_OF[web, marks]:
                for number in (1, 2, 3):
                    numbers = (number,) * len(names)
                    if not fits(web, numbers, marks, plan):
                        continue
                    for k, name in enumerate(names):
                        if name != web[1]:
                            self.assertTrue(fits(web, (*numbers[:k], 9, *numbers[k + 1:]), marks, plan))


class LetsPlanTest(Case):

    def rejects(self, word, at, thing, setting=(RING, 3)):
        self.fails(InvalidPaper(word, at), lets_plan, *setting, thing)

    def test_examples(self):
        self.same([lets_plan(NEAR, 2, (('a', 2), ('d', 1))), lets_plan(NEAR, 0, ())], [2, 0])
        self.rejects('open', 3, (('a', 2), ('b', 1)), (NEAR, 2))
        self.same(lets_plan(thing=TWICE, marks=3, web=RING), 3)

    def test_just_the_closed_plans(self):
        for web, marks in PLANNED:
            for pairs in subsets(all_pairs(web, marks)):
                fault = self.fault(web, marks, pairs)
                if fault is None:
                    self.same(self.kept(lets_plan, web, marks, pairs), len(pairs))
                else:
                    self.rejects(*fault, pairs, (web, marks))

    def fault(self, web, marks, pairs):
        """The first entry of the list, from "led" on, that applies to a set of pairs."""
        first = (web[1], marks)
        for k, pair in enumerate(pairs):
            if pair != first and not planoracle.is_led(web, pairs, pair):
                return 'led', k
        if first in all_pairs(web, marks) and first not in pairs:
            return 'first', -1
        found = planoracle.open_kinds(web, pairs)
        return ('open', found[0]) if found else None

    def test_no_tuple(self):
        for thing in (None, True, 0, '', 'a', [], list(TWICE), {}, set()):
            self.rejects('shape', -1, thing)
        for thing in JUNK:
            if not isinstance(thing, tuple):
                self.rejects('shape', -1, thing)

    def test_no_pair(self):
        wrongs = (*JUNK, (), ('a',), ('a', 3, 0), ['a', 3], ('a', '3'), ('a', True), ('a', None), (3, 'a'), ('e', 1),
                  ('d', 0), ('d', -1), ('d', 4), ('a', 4), ('b', 0), TWICE, (['a'], 3), ('A', 3), ('', 3))
        for wrong in wrongs:
            for k in range(4):
                self.rejects('pair', k, (*TWICE[:k], wrong, *TWICE[k:]))
                self.rejects('pair', k, (*TWICE[:k], wrong))
        for thing in JUNK:
            if isinstance(thing, tuple):
                self.rejects('pair', 0, thing)
        self.rejects('pair', 1, (('a', 2), ('b', 2), ('a', 2)), (HAVING, 2))
        self.rejects('pair', 0, (('b', 2),), (HAVING, 2))

    def test_pairs_that_are_not_greater(self):
        self.rejects('pair', 1, TWICE[::-1])
        self.rejects('pair', 1, (TWICE[0], *TWICE))
        self.rejects('pair', 2, (TWICE[0], TWICE[2], TWICE[1]))
        self.rejects('pair', 3, (*TWICE, TWICE[2]))
        self.rejects('pair', 3, (*TWICE, TWICE[0]))
        self.rejects('pair', 1, (('s', 10), ('s', 9)), (ALIKE, 10))
        self.same(lets_plan(ALIKE, 10, (('s', 9), ('s', 10))), 2)

    def test_pairs_that_are_not_led(self):
        self.rejects('led', 1, (('a', 3), ('b', 1), ('b', 2)))
        self.rejects('led', 0, (('d', 2),))
        self.rejects('led', 1, (('a', 3), ('d', 1)))
        self.rejects('led', 1, (('a', 3), ('c', 1)))
        self.rejects('led', 0, (('a', 2), ('a', 3)))
        self.rejects('led', 0, (('a', 2),))
        self.rejects('led', 0, (('s', 2), ('s', 4), ('s', 5), ('s', 6)), (ALIKE, 6))
        self.rejects('led', 1, (('a', 3), ('b', 1), ('c', 1)))

    def test_no_pair_of_the_asker(self):
        self.rejects('first', -1, ())
        self.rejects('first', -1, (), (ALONE, 2))
        self.rejects('first', -1, (), (MIXED, 2))
        self.same(lets_plan(MIXED, 1, ()), 0)
        self.same(lets_plan(MIXED, 2, (('b', 2),)), 1)

    def test_open(self):
        self.rejects('open', 1, (('a', 3),))
        self.rejects('open', 3, (('a', 3), ('b', 2), ('c', 1)))
        self.rejects('open', 1, ONCE)
        self.rejects('open', 2, (('a', 3), ('b', 2), ('d', 2)))
        self.same(lets_plan(RING, 3, (('a', 3), ('b', 1), ('b', 2), ('c', 1), ('d', 1), ('d', 2))), 6)
        self.same(lets_plan(RING, 1, (('a', 1),)), 1)

    def test_several_faults(self):
        self.rejects('pair', 2, (('c', 1), ('d', 1), ('c', 1)))
        self.rejects('pair', 1, (('c', 1), None))
        self.rejects('pair', 1, (('c', 1), ('a', 3)))
        self.rejects('led', 1, (('a', 3), ('c', 1), ('d', 1)))
        self.rejects('led', 0, (('c', 1),))
        self.rejects('led', 1, (('a', 3), ('c', 1)))
        self.rejects('first', -1, (), (NEAR, 5))
        self.rejects('open', 1, (('a', 3),), (NEAR, 3))
        self.rejects('pair', 0, (('a', 0),), (NEAR, 0))
        self.rejects('led', 0, (('b', 1),), (((('a', 3, False, ('b',)), ('b', 1, False, ('a',))), 'a'), 2))


if __name__ == '__main__':
    unittest.main()
