import unittest
from random import Random

from firstletter.errors import InvalidPaper
from firstletter.misschecker import lets_miss
from firstletter.misspapers import miss_paper
from tests.examples import ALIKE, ALONE, Case, JUNK, MIXED, NEAR, NO_KINDS, NO_MARKS, NO_NUMBERS, ONES, RING
from tests.oracle import CHAIN, HAVING
from tests.planoracle import (FREE, NUMBERED, all_pairs, all_plans, can_be_missed, fault_of_paper, names, rows_behind,
                              some_webs, subsets)

GOOD = ('missed', (('a', 2), ('d', 1)))
SMALL = [(web, numbers, marks) for web, numbers, marks in NUMBERED if len(all_pairs(web, marks)) < 8]
# Webs that send around, so that what is too few for one kind is not too few for another one.
AROUND = ((('a', 1, False, ('b', 'c')), ('b', 1, False, ('b', 'c')), ('c', 1, False, ('b', 'd')), ('d', 1, False, ())), 'a')
HUGE = 10 ** 20 - 1


def raised(setting, thing):
    """What lets_miss returns, or the word and the place of its error."""
    try:
        return lets_miss(*setting, thing)
    except InvalidPaper as error:
        return error.word, error.at


def changed_plans(web, marks, plan):
    """Values that are near to a plan."""
    yield from (plan[:k] + plan[k + 1:] for k in range(len(plan)))
    yield from (plan[:k] + plan[k:k + 1] + plan[k:] for k in range(len(plan)))
    yield from ((*plan[:k], [*plan[k]], *plan[k + 1:]) for k in range(len(plan)))
    yield from ((*plan[:k], (plan[k][0], plan[k][1] + 1), *plan[k + 1:]) for k in range(len(plan)))
    yield from ((*plan[:k], (plan[k][0], True), *plan[k + 1:]) for k in range(len(plan)))
    yield from ((*plan[:k], (*plan[k], 1), *plan[k + 1:]) for k in range(len(plan)))
    yield from ([*plan], plan[::-1], (plan,), None, (*plan, None), (*plan, ('zz', 1)), str(plan), (), 'missed', True)
    for pair in all_pairs(web, marks):
        yield tuple(sorted({*plan, pair}))


def changed_rows(rows, plans):
    """Values that are near to the rows of a paper."""
    yield from (rows[:k] + rows[k + 1:] for k in range(len(rows)))
    yield from (rows[:k] + rows[k:k + 1] + rows[k:] for k in range(len(rows)))
    yield from (rows[:k] + rows[k + 1:k + 2] + rows[k:k + 1] + rows[k + 2:] for k in range(len(rows)))
    yield from ((*rows[:k], [*rows[k]], *rows[k + 1:]) for k in range(len(rows)))
    yield from ((*rows[:k], rows[k][::-1], *rows[k + 1:]) for k in range(len(rows)))
    yield from ((*rows[:k], None, *rows[k + 1:]) for k in range(len(rows)))
    yield from (tuple(sorted({*rows, plan})) for plan in plans)
    yield from ([*rows], rows[::-1], (rows,), rows + (True,), (), None, 'reached', tuple(plans), tuple(plans[1:]))


class LetsMissTest(Case):

    def test_examples(self):
        self.same([lets_miss(NEAR, ONES, 2, 'c', GOOD), lets_miss(RING, ONES, 3, 'c', miss_paper(RING, ONES, 3, 'c'))],
                  [True, False])
        self.wrong('open', -1, (NEAR, ONES, 3, 'c'), ('missed', (('a', 3), ('d', 2))))
        self.wrong('way', 0, (NEAR, ONES, 3, 'c'), ('reached', ((('a', 3),),)))
        self.same(lets_miss(thing=GOOD, kind='c', marks=2, numbers=ONES, web=NEAR), True)

    def wrong(self, word, at, setting, thing):
        self.fails(InvalidPaper(word, at), lets_miss, *setting, thing)

    def test_shape(self):
        setting = (NEAR, ONES, 2, 'c')
        for thing in (*JUNK, (*GOOD, 1), GOOD[:1], [*GOOD], (GOOD,), ('MISSED', GOOD[1]), ('', GOOD[1]), (True, GOOD[1]),
                      (GOOD[1], 'missed'), (['missed'], GOOD[1]), (('missed',), GOOD[1]), 'missed', 'reached',
                      ('reached',), ('reached', None), ('reached', [((('a', 2),))]), ('reached', 'a'), ('reached', True),
                      ('reached', (), ()), ('reached ', ()), (None, ()), (0, ()), ([], ()), ((), ())):
            self.wrong('shape', -1, setting, thing)

    def test_missed_each_fault_alone(self):
        for plan in (*JUNK, None, [*GOOD[1]], GOOD[1][::-1], GOOD[1] + GOOD[1][1:], (('a', 2), ('d', True)),
                     (('a', 2), ['d', 1]), (('a', 2), ('c', 1)), (('d', 1),), (('a', 3), ('d', 2)), (('a', 2), ('d', 1), 1)):
            self.wrong('plan', -1, (NEAR, ONES, 2, 'c'), ('missed', plan))
        self.wrong('open', -1, (NEAR, ONES, 2, 'c'), ('missed', (('a', 2),)))
        self.wrong('fits', -1, (RING, ONES, 3, 'c'), ('missed', (('a', 3), ('d', 1), ('d', 2))))
        self.same(lets_miss(RING, (1, 1, 1, 2), 3, 'c', ('missed', (('a', 3), ('d', 1), ('d', 2)))), True)
        self.wrong('near', -1, (NEAR, ONES, 2, 'd'), GOOD)
        self.wrong('near', -1, (NEAR, ONES, 2, 'a'), GOOD)
        self.same(lets_miss(NEAR, (2, 1, 1, 1), 2, 'a', GOOD), True)

    def test_missed_several_faults_at_once(self):
        # A kind that is near in a plan that is open and has too many uses; then one fault after the other goes away.
        self.wrong('plan', -1, (RING, ONES, 4, 'd'), ('missed', (('a', 4), ('d', 3), ('d', 1))))
        self.wrong('open', -1, (RING, ONES, 4, 'd'), ('missed', (('a', 4), ('d', 2), ('d', 3))))
        self.wrong('fits', -1, (RING, ONES, 4, 'd'), ('missed', (('a', 4), ('d', 1), ('d', 2), ('d', 3))))
        self.wrong('near', -1, (RING, (1, 1, 1, 3), 4, 'd'), ('missed', (('a', 4), ('d', 1), ('d', 2), ('d', 3))))
        self.wrong('fits', -1, (ALIKE, (2,), 2, 's'), ('missed', (('s', 2),)))
        self.wrong('near', -1, (ALIKE, (1,), 2, 's'), ('missed', (('s', 2),)))

    def test_reached_each_fault_alone(self):
        setting = (NEAR, ONES, 3, 'c')
        rows = miss_paper(*setting)[1]
        self.assertGreater(len(rows), 3)
        for k, row in enumerate(rows):
            for wrong in (None, True, [*row], row[::-1] if len(row) > 1 else row + row, (*row, None), ('a', 3), (('d', 2),)):
                self.wrong('row', k, setting, ('reached', (*rows[:k], wrong, *rows[k + 1:])))
            self.wrong('row', k + 1, setting, ('reached', (*rows[:k + 1], row, *rows[k + 1:])))
        self.wrong('row', 1, setting, ('reached', rows[:2][::-1]))
        self.wrong('first', -1, setting, ('reached', ()))
        self.wrong('first', -1, setting, ('reached', rows[1:]))
        self.wrong('way', 0, setting, ('reached', rows[:1]))
        self.wrong('fits', 0, (NEAR, ONES, 0, 'c'), ('reached', ((),)))
        self.wrong('first', -1, (NEAR, ONES, 0, 'c'), ('reached', ()))
        self.wrong('fits', 3, (NEAR, ONES, 2, 'c'), ('reached', tuple(sorted(all_plans(NEAR, 2)))))

    def test_reached_several_faults_at_once(self):
        setting = (NEAR, ONES, 3, 'c')
        rows = miss_paper(*setting)[1]
        self.wrong('row', 1, setting, ('reached', (rows[1], rows[1], None)))
        self.wrong('row', 0, setting, ('reached', (None, rows[0], rows[0])))
        self.wrong('row', 2, setting, ('reached', (rows[0], rows[1], None)))
        # "fits" of a row comes ahead of its "way", and behind the "way" of the row before.
        plans = sorted(all_plans(NEAR, 2))
        self.same(plans, [(('a', 2),), (('a', 2), ('b', 1)), (('a', 2), ('b', 1), ('d', 1)), (('a', 2), ('d', 1))])
        self.wrong('way', 0, (NEAR, ONES, 2, 'c'), ('reached', (plans[0], plans[3])))
        self.wrong('fits', 2, (NEAR, ONES, 2, 'c'), ('reached', (plans[0], plans[1], plans[3])))

    def test_the_asker_with_one_store(self):
        for setting in ((NEAR, ONES, 0, 'a'), (NEAR, ONES, 2, 'a'), (ALIKE, (1,), 3, 's'), (MIXED, (2, 1, 2), 4, 'b'),
                        (ALONE, (1,), 0, 'q')):
            self.same(lets_miss(*setting, ('reached', ())), False)
            plans = sorted(all_plans(setting[0], setting[2]))
            self.wrong('first', -1, setting, ('reached', tuple(plans)))
            self.wrong('first', -1, setting, ('reached', tuple(plans[:1])))
            self.wrong('row', 0, setting, ('reached', (None,)))
            self.wrong('row', 1, setting, ('reached', (plans[0], None)))
            self.wrong('shape', -1, setting, ('reached', []))
        self.wrong('first', -1, (NEAR, (2, 1, 1, 1), 2, 'a'), ('reached', ()))

    def test_room_for_the_kind_of_the_pair_alone(self):
        # The row has too many pairs of b, put in by hand; a pair of c can still follow it.
        setting = (AROUND, (1, 1, 1, 1), 4, 'd')
        row = (('a', 4), ('b', 2), ('b', 3))
        self.assertIn((('a', 4), ('b', 2), ('b', 3), ('c', 3)), rows_behind(*setting[:3], row))
        rows = tuple(sorted({*miss_paper(*setting)[1], row}))
        self.same(raised(setting, ('reached', rows)), fault_of_paper(*setting, ('reached', rows)))
        self.same(raised(setting, ('reached', rows)), ('way', rows.index(row)))

    def test_papers(self):
        for web, numbers, marks in NUMBERED:
            if len(all_pairs(web, marks)) < 10:
                for kind in names(web):
                    paper = miss_paper(web, numbers, marks, kind)
                    self.same(self.kept(lets_miss, web, numbers, marks, kind, paper), paper[0] == 'missed')

    def test_great_numbers(self):
        for web in (NEAR, RING, ALIKE, MIXED, HAVING, FREE, CHAIN, *some_webs(10)):
            many = len(web[0])
            for marks in range(5):
                if len(all_pairs(web, marks)) < 9:
                    for numbers in ((HUGE,) * many, (1,) * (many - 1) + (HUGE,)):
                        for kind in names(web):
                            paper = miss_paper(web, numbers, marks, kind)
                            self.same(lets_miss(web, numbers, marks, kind, paper), paper[0] == 'missed')
                            self.agrees((web, numbers, marks, kind), paper)

    def agrees(self, setting, thing):
        """lets_miss says of a value what the list of [52] says, and what it accepts is true."""
        wanted = fault_of_paper(*setting, thing)
        got = raised(setting, thing)
        self.same(got, wanted, (setting, thing))
        return got

    def test_all_plans_as_missed(self):
        for web, numbers, marks in SMALL:
            for kind in names(web):
                setting = (web, numbers, marks, kind)
                can = can_be_missed(*setting)
                for plan in subsets(all_pairs(web, marks)):
                    if self.agrees(setting, ('missed', plan)) is True:
                        self.assertIs(can, True)

    def test_near_to_papers(self):
        for web, numbers, marks in SMALL:
            for kind in names(web):
                setting = (web, numbers, marks, kind)
                word, said = miss_paper(*setting)
                plans = sorted(all_plans(web, marks))
                changed = changed_plans(web, marks, said) if word == 'missed' else changed_rows(said, plans[:12])
                for thing in changed:
                    for paper in ((word, thing), ('missed', thing), ('reached', thing)):
                        if type(self.agrees(setting, paper)) is bool:
                            self.assertIs(raised(setting, paper), can_be_missed(*setting))

    def test_papers_of_other_settings(self):
        chance = Random(5)
        papers = {}
        for web, numbers, marks in SMALL:
            for kind in names(web):
                papers[web, numbers, marks, kind] = miss_paper(web, numbers, marks, kind)
        settings = list(papers)
        for setting in settings:
            near = [other for other in settings if other[0] == setting[0]]
            for other in (*chance.sample(near, min(8, len(near))), *chance.sample(settings, 2)):
                if type(self.agrees(setting, papers[other])) is bool:
                    self.assertIs(lets_miss(*setting, papers[other]), can_be_missed(*setting))

    def test_all_sets_of_plans_as_rows(self):
        for web, numbers, marks in SMALL:
            plans = all_plans(web, marks)
            if len(plans) > 7 or sum(numbers) > 5:
                continue
            for kind in names(web):
                setting = (web, numbers, marks, kind)
                can = can_be_missed(*setting)
                got = [self.agrees(setting, ('reached', rows)) for rows in subsets(plans)]
                self.assertNotIn(True, [row for row in got if type(row) is bool])
                self.assertIs(any(row is False for row in got), not can)

    def test_any_rows(self):
        chance = Random(6)
        for web, numbers, marks in SMALL:
            plans = sorted(all_plans(web, marks))
            for kind in names(web):
                for _ in range(6):
                    rows = tuple(plan for plan in plans if chance.random() < 0.85)
                    self.agrees((web, numbers, marks, kind), ('reached', rows))

    def test_errors(self):
        self.refuses(lets_miss, NEAR, ('numbers', ONES, NO_NUMBERS), ('marks', 2, NO_MARKS), ('kind', 'c', NO_KINDS),
                     ('thing', GOOD, ()))


if __name__ == '__main__':
    unittest.main()
