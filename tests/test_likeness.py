import unittest
from itertools import product

from firstletter.errors import NotUsable
from firstletter.likeness import are_alike, parting_kind
from firstletter.misses import least_numbers, missed_kinds
from firstletter.webchanges import renamed, with_arrow, with_fee, with_has, with_kind, without_kind
from tests.examples import ALIKE, ALONE, Case, JUNK, MIXED, NEAR, NO_MARKS, RING
from tests.oracle import CHAIN, HAVING
from tests.planoracle import FREE, names, some_webs

WEBS = (NEAR, RING, ALIKE, MIXED, ALONE, HAVING, CHAIN, FREE, *some_webs(12))
NO_WEBS = (*JUNK, NEAR[0], NEAR[1], (NEAR,), [*NEAR], (NEAR[0], 'e'), (NEAR[0][::-1], 'a'), (NEAR[0], ['a']), (*NEAR, 'a'),
           ((('a', True, False, ()),), 'a'), ((('a', 1, 0, ()),), 'a'), ((('a', 1, True, ()),), 'a'), ((), 'a'))


def literal_parting(web, other, marks):
    for name in sorted({*names(web), *names(other)}):
        if name not in names(web) or name not in names(other):
            return name
        if set(least_numbers(web, marks, name)) != set(least_numbers(other, marks, name)):
            return name
    return None


class LikenessTest(Case):

    def test_examples(self):
        self.same([are_alike(NEAR, RING, 2), are_alike(NEAR, RING, 3), parting_kind(NEAR, RING, 3),
                   parting_kind(ALIKE, NEAR, 2)], [True, False, 'c', 'a'])
        self.same([are_alike(marks=3, other=RING, web=NEAR), parting_kind(marks=3, other=RING, web=NEAR)], [False, 'c'])

    def test_all_pairs_of_webs(self):
        for web, other in product(WEBS, repeat=2):
            for marks in range(5):
                wanted = literal_parting(web, other, marks)
                self.same(self.kept(parting_kind, web, other, marks), wanted)
                self.same(self.kept(are_alike, web, other, marks), wanted is None)

    def test_webs_that_differ_in_one_part(self):
        for marks in range(5):
            for other in (with_fee(NEAR, 'd', 2), with_fee(NEAR, 'c', 2), with_has(NEAR, 'b', True), with_has(NEAR, 'c', True),
                          with_arrow(NEAR, 'c', 'a'), with_arrow(NEAR, 'a', 'c'), (NEAR[0], 'd')):
                self.same(parting_kind(NEAR, other, marks), literal_parting(NEAR, other, marks))
        self.same([parting_kind(NEAR, with_arrow(NEAR, 'c', 'a'), marks) for marks in range(5)],
                  [None, None, None, None, 'a'])
        self.same([parting_kind(NEAR, with_arrow(NEAR, 'a', 'c'), marks) for marks in range(4)], [None, 'c', 'c', None])
        self.same([parting_kind(NEAR, with_has(NEAR, 'c', True), marks) for marks in range(4)], [None] * 4)
        self.same([parting_kind(NEAR, with_fee(NEAR, 'd', 2), marks) for marks in range(5)], [None, None, 'c', 'c', None])

    def test_webs_with_other_names(self):
        self.same(parting_kind(NEAR, renamed(NEAR, 'c', 'e'), 3), 'c')
        self.same(parting_kind(renamed(NEAR, 'c', 'e'), NEAR, 3), 'c')
        self.same(parting_kind(NEAR, renamed(NEAR, 'a', 'e'), 3), 'a')
        self.same(parting_kind(NEAR, renamed(NEAR, 'd', 'aa'), 0), 'aa')
        self.same(parting_kind(NEAR, renamed(NEAR, 'd', 'aa'), 2), 'aa')
        self.same(parting_kind(renamed(ALIKE, 's', 'a'), ALIKE, 3), 'a')
        self.same(parting_kind(NEAR, NEAR, 10 ** 3), None)

    def test_a_kind_more(self):
        more = with_kind(NEAR, ('e', 1, False, ()))
        # With numbers for five kinds instead of four, the least numbers are unlike where there are any.
        self.same(parting_kind(NEAR, more, 3), 'a')
        self.same([least_numbers(NEAR, 3, 'b'), least_numbers(more, 3, 'b')], [(), ()])
        # Where nobody can be missed, only the name that is new tells.
        whole = ((('a', 1, False, ('a', 'b')), ('b', 1, False, ())), 'a')
        self.same(parting_kind(whole, with_kind(whole, ('aa', 2, True, ())), 1), 'aa')
        self.same(parting_kind(with_kind(whole, ('z', 1, False, ())), whole, 4), 'z')
        self.same(parting_kind(without_kind(whole, 'b'), whole, 1), 'b')
        self.same(parting_kind(without_kind(whole, 'b'), whole, 0), 'a')

    def test_what_stands_in_the_table_of_a_holder(self):
        web = with_has(NEAR, 'b', True)
        for marks in range(5):
            self.assertIs(are_alike(web, with_arrow(web, 'b', 'a'), marks), True)

    def test_errors(self):
        for function in (are_alike, parting_kind):
            self.refuses(function, NEAR, ('other', RING, NO_WEBS), ('marks', 2, NO_MARKS))
            self.fails(NotUsable('other', -1), function, NEAR, None, None)
            # Also where the names alone tell that the webs are not alike.
            for wrong in NO_MARKS:
                self.fails(NotUsable('marks', -1), function, NEAR, ALIKE, wrong)


class ConsequencesTest(Case):

    def test_alike_webs_have_the_same_missed_kinds(self):
        seen = 0
        for web, other in product(WEBS, repeat=2):
            for marks in range(4):
                if are_alike(web, other, marks):
                    seen += web != other
                    for numbers in product((1, 2, 3), repeat=len(web[0])):
                        self.same(missed_kinds(web, numbers, marks), missed_kinds(other, numbers, marks))
        self.assertGreater(seen, 20)

    def test_a_web_is_alike_to_itself(self):
        for web in WEBS:
            for marks in range(6):
                self.assertIs(are_alike(web, web, marks), True)
                self.assertIsNone(parting_kind(web, (web[0], web[1]), marks))


if __name__ == '__main__':
    unittest.main()
