import unittest
from itertools import product

from firstletter.reach import near_of
from firstletter.sure import sure_marks
from tests.examples import ALIKE, ALONE, Case, JUNK, MIXED, NEAR, NO_NUMBERS, ONES, RING
from tests.oracle import CHAIN, HAVING, row_of
from tests.planoracle import FREE, can_be_missed, ends, grown_closed_plans, has_room, names, near_kinds, some_webs

HUGE = 10 ** 20 - 1
WEBS = (NEAR, RING, ALIKE, MIXED, ALONE, HAVING, CHAIN, FREE, *some_webs(20))
NO_BOUNDS = (None, True, False, -1, -10 ** 59, '6', '', 'a', (), (6,), [6], [], *[thing for thing in JUNK if thing != 10 ** 59])


def literal_sure(web, numbers, most):
    """The marks with which no kind that some plan has near is missed in any run that is over."""
    found = []
    for marks in range(most + 1):
        lying = {kind for plan in grown_closed_plans(web, marks) for kind in near_kinds(web, plan)}
        if not any(can_be_missed(web, numbers, marks, kind) for kind in lying):
            found.append(marks)
    return tuple(found)


def planned_sure(web, numbers, most):
    """The same by closed plans that fit, for great numbers."""
    found = []
    for marks in range(most + 1):
        plans = grown_closed_plans(web, marks)
        lying = {kind for plan in plans for kind in near_kinds(web, plan)}
        missed = {kind for kind in lying for plan in plans if has_room(web, numbers, plan)
                  and kind not in near_kinds(web, plan) and (kind != web[1] or numbers[names(web).index(kind)] > 1)}
        if not missed:
            found.append(marks)
    return tuple(found)


class SureTest(Case):

    def test_examples(self):
        self.same([sure_marks(NEAR, ONES, 6), sure_marks(RING, (1, 1, 1, 2), 6), sure_marks(ALIKE, (1,), 2)],
                  [(0, 1, 3, 4, 5, 6), (0, 1, 4, 5, 6), (0, 1, 2)])
        self.same(sure_marks(most=6, numbers=ONES, web=NEAR), (0, 1, 3, 4, 5, 6))

    def test_beside_all_closed_trees(self):
        for web in WEBS:
            for numbers in product((1, 2), repeat=len(web[0])):
                if sum(numbers) < 6 and len(ends(web, numbers, 6)) < 3000:
                    wanted = literal_sure(web, numbers, 6)
                    self.same(self.kept(sure_marks, web, numbers, 6), wanted)
                    self.same(planned_sure(web, numbers, 6), wanted)

    def test_each_bound(self):
        for web in WEBS[:8]:
            numbers = (2,) * len(web[0])
            whole = sure_marks(web, numbers, 6)
            for most in range(7):
                self.same(sure_marks(web, numbers, most), tuple(marks for marks in whole if marks <= most))
            # Below the fee of the asker nobody lies near.
            fee = row_of(web, web[1])[1]
            self.same(sure_marks(web, numbers, fee - 1), tuple(range(fee)))
        self.same(sure_marks(NEAR, ONES, 0), (0,))

    def test_great_numbers(self):
        for web in WEBS:
            many = len(web[0])
            for numbers in ((HUGE,) * many, (*(1,) * (many - 1), HUGE), (HUGE, *(1,) * (many - 1))):
                self.same(sure_marks(web, numbers, 5), planned_sure(web, numbers, 5))

    def test_the_kind_of_the_asker(self):
        self.same(sure_marks(ALIKE, (5,), 6), tuple(range(7)))
        self.same(sure_marks(CHAIN, (2, 1, 1), 6), literal_sure(CHAIN, (2, 1, 1), 6))
        self.same(sure_marks(CHAIN, (1, 1, 1), 6), literal_sure(CHAIN, (1, 1, 1), 6))

    def test_errors(self):
        self.refuses(sure_marks, NEAR, ('numbers', ONES, NO_NUMBERS), ('most', 3, NO_BOUNDS))


class ConsequencesTest(Case):

    def test_with_greater_numbers_no_marks_come(self):
        for web in WEBS:
            many = len(web[0])
            for numbers in product((1, 2), repeat=many):
                sure = set(sure_marks(web, numbers, 5))
                for k in range(many):
                    more = (*numbers[:k], numbers[k] + 1, *numbers[k + 1:])
                    self.assertLessEqual(set(sure_marks(web, more, 5)), sure)

    def test_marks_with_which_nobody_lies_near(self):
        for web in WEBS:
            sure = sure_marks(web, (2,) * len(web[0]), 6)
            for marks in range(7):
                if near_of(web, marks) == ():
                    self.assertIn(marks, sure)


if __name__ == '__main__':
    unittest.main()
