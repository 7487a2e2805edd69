import unittest
from random import Random

from firstletter.finding import is_surely_found
from firstletter.letters import least_counts, least_letters, most_letters
from firstletter.misschecker import lets_miss
from firstletter.misses import can_miss, first_marks, least_numbers, missed_kinds
from firstletter.misspapers import miss_paper
from firstletter.reach import best_marks, near_of
from firstletter.sure import sure_marks
from tests.examples import ALIKE, Case, MIXED, NEAR, RING
from tests.oracle import CHAIN, HAVING, row_of
from tests.planoracle import FREE, names, some_webs

WEBS = (NEAR, RING, ALIKE, MIXED, HAVING, CHAIN, FREE, *some_webs(40))


def told(web, numbers, marks):
    """What stages 13 to 17 tell of a web, apart from what may be any value."""
    missed = missed_kinds(web, numbers, marks)
    return [
        best_marks(web, marks), near_of(web, marks), missed, most_letters(web, marks), least_counts(web, marks),
        least_letters(web, numbers, marks), is_surely_found(web, numbers, marks), sure_marks(web, numbers, marks),
        [(can_miss(web, numbers, marks, kind), least_numbers(web, marks, kind)) for kind in names(web)],
        [first_marks(web, numbers, marks, kind) for kind in names(web) if kind not in missed],
    ]


def with_other_tables(web, chance):
    """The web with other tables of the kinds that have the thing."""
    kinds = [(name, fee, has, tuple(other for other in names(web) if chance.random() < 0.5) if has else table)
             for name, fee, has, table in web[0]]
    return tuple(kinds), web[1]


def multiplied(web, by):
    """The web with fees so many times as great."""
    return tuple((name, fee * by, has, table) for name, fee, has, table in web[0]), web[1]


class WebsTest(Case):

    def test_kinds_in_the_table_of_the_asker(self):
        for web in WEBS:
            numbers = (2,) * len(web[0])
            for marks in range(row_of(web, web[1])[1], 6):
                for kind in row_of(web, web[1])[3]:
                    self.assertIs(can_miss(web, numbers, marks, kind), False)
                    self.same(miss_paper(web, numbers, marks, kind)[0], 'reached')

    def test_tables_of_kinds_that_have_the_thing(self):
        chance, seen = Random(3), 0
        for web in WEBS:
            for other in (with_other_tables(web, chance), with_other_tables(web, chance)):
                if other == web:
                    continue
                seen += 1
                for marks in range(5):
                    for numbers in ((1,) * len(web[0]), (2,) * len(web[0])):
                        self.same(told(other, numbers, marks), told(web, numbers, marks))
                        for kind in names(web):
                            paper = miss_paper(web, numbers, marks, kind)
                            self.same(lets_miss(other, numbers, marks, kind, paper), paper[0] == 'missed')
        self.assertGreater(seen, 10)

    def test_fees_and_marks_multiplied(self):
        for web in WEBS:
            for marks in range(5):
                for by in (1, 2, 3, 7, 10 ** 12):
                    more = multiplied(web, by)
                    self.same(most_letters(more, marks * by), most_letters(web, marks))
                    self.same(least_counts(more, marks * by), least_counts(web, marks))
                    for kind in names(web):
                        self.same(least_numbers(more, marks * by, kind), least_numbers(web, marks, kind))


if __name__ == '__main__':
    unittest.main()
