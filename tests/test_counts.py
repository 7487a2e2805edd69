import copy
import unittest
from itertools import product
from random import Random

from firstletter.counts import Count
from firstletter.errors import InvalidText, NotUsable
from tests.examples import Case, JUNK, NEAR

FORTY = 10 ** 40 - 1
SIXTY = 10 ** 60 - 1
NAMES = ((), ('a',), ('a', 'a'), ('a', 'b'), ('b',), ('b', 'b'))
GOOD = (
    (), (((), 1),), (((), -1),), ((('a',), 2),), ((('s',), -1), (('s', 's'), 1)), (((), FORTY), (('a',), -FORTY)),
    (((), 3), (('a',), 2), (('a', 'a'), -1), (('a', 'b'), 5), (('b',), -2), (('b', 'b'), 7)),
    ((('abcdefgh', 'z'), 1),), ((('a', 'b'), 4), (('b',), 1)),
)
# What cannot be a term, wherever it stands.
NO_TERMS = (
    None, True, 0, 1, 'a', '', (), ('a',), ('a', 1), ('a', 'b', 1), (('a',), 1, 1), [('a',), 1], (['a'], 1), (('a',), 0),
    (('a',), True), (('a',), False), (('a',), None), (('a',), '1'), (('a',), [1]), ((None,), 1), ((1,), 1), (('A',), 1),
    (('',), 1), (('abcdefghi',), 1), (('a b',), 1), (('a\n',), 1), (('b', 'a'), 1), (('a', 'a', 'a'), 1),
    (('a', 'b', 'c'), 1), (('a', ['b']), 1), ((('a',),), 1), (('a', 'B'), 1), (('aa', 'a'), 1), ((), 0), ((), True), ((),),
)
# What is neither a Count nor an integer.
NO_FACTORS = (True, False, None, '', '1', 'a', (), (1,), [], [1], ((),), (((), 1),), NEAR)


def some_terms(many):
    """Counts of few names, the same ones each time."""
    chance, rows = Random(8), []
    for _ in range(many):
        chosen = [names for names in NAMES if chance.random() < 0.5]
        rows.append(tuple((names, chance.choice((-3, -1, 1, 2, FORTY, -FORTY))) for names in chosen))
    return rows


def literal_worth(terms, numbers):
    total = 0
    for names, coefficient in terms:
        for name in names:
            coefficient *= numbers[name]
        total += coefficient
    return total


class MakingTest(Case):

    def test_good_terms(self):
        self.same(Count().terms, ())
        for terms in (*GOOD, *some_terms(50)):
            count = self.kept(Count, terms)
            self.same(count.terms, terms)
            self.same(Count(terms=terms).terms, terms)
            self.same(len(count), len(terms))
            self.same(count.names, tuple(sorted({name for names, _ in terms for name in names})))

    def test_no_terms(self):
        for thing in (*JUNK, None, [], [(('a',), 1)], (('a',), 1), ('a', 1), 'a', 0, 1, Count(), {}, (Count(),)):
            self.fails(NotUsable('terms', -1), Count, thing)

    def test_a_bad_term_at_each_place(self):
        for terms in GOOD:
            for wrong in NO_TERMS:
                for k in range(len(terms) + 1):
                    self.fails(NotUsable('terms', -1), Count, (*terms[:k], wrong, *terms[k:]))
                    self.fails(NotUsable('terms', -1), Count, (*terms[:k], wrong, *terms[k + 1:]))

    def test_terms_out_of_order_or_twice(self):
        for terms in GOOD:
            for k in range(len(terms)):
                self.fails(NotUsable('terms', -1), Count, terms[:k + 1] + terms[k:])
                self.fails(NotUsable('terms', -1), Count, (*terms[:k + 1], (terms[k][0], terms[k][1] + 10 ** 50), *terms[k + 1:]))
            if len(terms) > 1:
                self.fails(NotUsable('terms', -1), Count, terms[::-1])
                self.fails(NotUsable('terms', -1), Count, [*terms])
        self.fails(NotUsable('terms', -1), Count, ((('a',), 1), ((), 1)))
        self.fails(NotUsable('terms', -1), Count, ((('b',), 1), (('a', 'b'), 1)))
        self.fails(NotUsable('terms', -1), Count, ((('a', 'b'), 1), (('a', 'a'), 1)))

    def test_never_changes(self):
        count = Count(GOOD[6])
        for name in ('terms', 'names'):
            self.assertIsInstance(vars(Count)[name], property)
            with self.assertRaises(AttributeError):
                setattr(count, name, ())


class OperatorsTest(Case):

    def test_examples(self):
        self.same([str(Count(((('a',), 2),)) + 3), (Count.unknown('a') * 2).terms,
                   Count.parsed('3 + 2*a') == Count.unknown('a') * 2 + 3], ['3 + 2*a', ((('a',), 2),), True])

    def test_sums(self):
        rows = [*GOOD, *some_terms(12)]
        for one, other in product(rows, repeat=2):
            sums = dict(one)
            for names, coefficient in other:
                sums[names] = sums.get(names, 0) + coefficient
            wanted = tuple(sorted((names, coefficient) for names, coefficient in sums.items() if coefficient))
            left, right = Count(one), Count(other)
            self.same((left + right).terms, wanted)
            self.same((left.terms, right.terms), (one, other))

    def test_terms_go_away(self):
        for terms in GOOD:
            count = Count(terms)
            self.same((count + count * -1).terms, ())
            self.same((count * 0).terms, ())
            self.same((count + Count(tuple((names, -coefficient) for names, coefficient in terms[1:]))).terms, terms[:1])
        self.same((Count.parsed('3 + 2*a') + -3).terms, ((('a',), 2),))
        self.same((Count.parsed('3') + -3).terms, ())

    def test_integers(self):
        for terms in GOOD:
            for number in (0, 1, -1, 7, FORTY, -FORTY, SIXTY):
                base = dict(terms).get((), 0) + number
                rest = tuple((names, coefficient) for names, coefficient in terms if names)
                self.same((Count(terms) + number).terms, ((((), base),) if base else ()) + rest)
                self.same((Count(terms) * number).terms,
                          tuple((names, coefficient * number) for names, coefficient in terms if number))

    def test_new_counts(self):
        count = Count(GOOD[6])
        for made in (count + 0, count * 1, count + Count()):
            self.assertIsNot(made, count)
            self.assertIs(type(made), Count)
            self.same(made.terms, count.terms)

    def test_no_factors(self):
        for terms in GOOD:
            for wrong in NO_FACTORS:
                self.fails(NotUsable('other', -1), lambda one, other: one + other, Count(terms), wrong)
                self.fails(NotUsable('other', -1), lambda one, other: one * other, Count(terms), wrong)
            for other in (Count(), Count.unknown('a'), Count(terms)):
                self.fails(NotUsable('other', -1), lambda one, more: one * more, Count(terms), other)

    def test_in_place_leaves_the_first_object(self):
        for terms in GOOD:
            count = first = Count(terms)
            count += 2
            self.same((first.terms, count.terms), (terms, (first + 2).terms))
            count = first
            count *= 3
            self.same((first.terms, count.terms), (terms, (first * 3).terms))
            count = first
            count += Count.unknown('a')
            self.same((first.terms, count.terms), (terms, (first + Count.unknown('a')).terms))
            self.assertIsNot(count, first)
            for wrong in (True, None, '1'):
                with self.assertRaises(NotUsable):
                    count += wrong
                with self.assertRaises(NotUsable):
                    count *= wrong
                self.same(first.terms, terms)

    def test_equal(self):
        class Other(Count):
            pass
        for one, other in product((*GOOD, *some_terms(5)), repeat=2):
            self.assertIs(Count(one) == Count(other), one == other)
            self.assertIs(Count(one) != Count(other), one != other)
            self.assertIs(Count(one) == Other(other), one == other)
        for terms in GOOD:
            for other in (None, True, 0, 1, terms, [*terms], str(Count(terms)), '', (), NEAR, JUNK, *JUNK):
                self.assertIs(Count(terms) == other, False)
                self.assertIs(Count(terms) != other, True)


class WorthTest(Case):

    def test_worth(self):
        for terms in (*GOOD, *some_terms(40)):
            count = Count(terms)
            for one, other in ((1, 1), (2, 3), (10 ** 20 - 1, 7), (SIXTY, 1)):
                numbers = {name: one if k % 2 else other for k, name in enumerate(count.names)}
                pairs = list(numbers.items())
                wanted = literal_worth(terms, numbers)
                self.same(self.kept(count.worth, *pairs), wanted)
                self.same(count.worth(*pairs[::-1]), wanted)
                self.same(count.worth(('zzz', 5), *pairs, ('zz', 9)), wanted)
        self.same([Count().worth(), Count().worth(('a', 1)), Count(((('a',), 2), (('a', 'a'), -1))).worth(('a', 5))],
                  [0, 0, -15])
        self.same(Count.parsed('-7').worth(), -7)

    def test_missing_names(self):
        count = Count.parsed('3 + 2*a + 1*b*c')
        pairs = [('a', 1), ('b', 2), ('c', 3)]
        for k in range(3):
            self.fails(NotUsable('pairs', -1), count.worth, *pairs[:k], *pairs[k + 1:])
            self.fails(NotUsable('pairs', -1), count.worth, ('d', 1), *pairs[:k], *pairs[k + 1:])
        self.fails(NotUsable('pairs', -1), count.worth)

    def test_bad_pairs_at_each_place(self):
        count = Count.parsed('3 + 2*a + 1*b*c')
        pairs = [('a', 1), ('b', 2), ('c', 3)]
        for wrong in (None, True, 0, 'a', 'a1', '', (), ('e',), ('e', 0), ('e', -1), ('e', True), ('e', None), ('e', '1'),
                      ('e', 1, 1), ['e', 1], ('E', 1), ('', 1), (1, 'e'), (None, 1), (['e'], 1), ('e', [1]), ('abcdefghi', 1),
                      ('e\n', 1), (('e', 1),), *JUNK):
            for k in range(4):
                self.fails(NotUsable('pairs', k), count.worth, *pairs[:k], wrong, *pairs[k:])
                self.fails(NotUsable('pairs', k), count.worth, *pairs[:k], wrong, wrong)
                # Also if a name is missing.
                self.fails(NotUsable('pairs', k), count.worth, *pairs[:k], wrong)

    def test_twice(self):
        count = Count.parsed('1*a*b')
        self.fails(NotUsable('pairs', 1), count.worth, ('a', 1), ('a', 1))
        self.fails(NotUsable('pairs', 2), count.worth, ('a', 1), ('b', 2), ('a', 1))
        self.fails(NotUsable('pairs', 3), count.worth, ('a', 1), ('b', 2), ('c', 1), ('c', 1), None)
        self.fails(NotUsable('pairs', 1), count.worth, ('a', 1), None, ('a', 1))


class TextTest(Case):

    def test_written(self):
        for terms, text in (
                ((), '0'), ((((), 3), (('a',), 2)), '3 + 2*a'), ((((), -1),), '-1'),
                (((('s',), -1), (('s', 's'), 1)), '-1*s + 1*s*s'), (((('ab', 'c'), -12),), '-12*ab*c'),
                ((((), FORTY), (('a', 'b'), 1)), '9' * 40 + ' + 1*a*b')):
            self.same(str(Count(terms)), text)
            self.same(Count.parsed(text).terms, terms)

    def test_there_and_back(self):
        for terms in (*GOOD, *some_terms(80)):
            count = Count(terms)
            self.same(Count.parsed(str(count)).terms, terms)
            self.assertIs(Count.parsed(text=str(count)) == count, True)

    def no_text(self, k, text):
        self.fails(InvalidText(0, k), Count.parsed, text)

    def test_terms_that_cannot_stand(self):
        self.no_text(0, '2*b*a')
        for wrong in ('', '-', '+', '--1', '+1', '-+1', '-0', '00', '01', '-01', '1 ', ' 1', '1*', '*a', 'a', '1a', 'a*1',
                      '1*A', '1*a*', '1**a', '1*a*a*a', '1*b*a', '1*aa*a', '1*abcdefghi', '1 *a', '1* a', '1*a ', '1*a\n',
                      '\n1*a', '1\n', '1.0', '1_0', '0*a', '-0*a', '1*a1', '1-', '1*a+', '1*a +1*b', '1*a+ 1*b', '1*a+1*b', '0x1',
                      '1*-a', '-*a', '- 1', '1*a  ', '9' * 61, '-' + '9' * 61, '9' * 61 + '*a', 'None', '1*a - 1*b'):
            self.no_text(0, wrong)
            self.no_text(0, wrong + ' + 1*z')
            self.no_text(0, wrong + ' + ' + wrong)
            for rows in (('5',), ('-3', '1*a'), ('1*a', '2*a*a', '-1*b')):
                self.no_text(len(rows), ' + '.join((*rows, wrong)))
                self.no_text(len(rows), ' + '.join((*rows, wrong, '1*zz')))

    def test_order(self):
        self.no_text(1, '1*a + 3')
        self.no_text(1, '3 + 3')
        self.no_text(1, '3 + 4 + 1*a')
        self.no_text(2, '3 + 1*a + 2*a')
        self.no_text(1, '1*b + 1*a*b')
        self.no_text(2, '1*a*a + 1*a*b + 1*a*a')
        self.no_text(1, '1*a*b + 1*a + 1*b*a')
        self.no_text(0, '1*b*a + 1*a')

    def test_digits(self):
        self.same(Count.parsed('9' * 60).terms, (((), SIXTY),))
        self.same(Count.parsed('-' + '9' * 60 + '*a').terms, ((('a',), -SIXTY),))
        self.same(Count.parsed('10*a').terms, ((('a',), 10),))

    def test_zero(self):
        self.same(Count.parsed('0').terms, ())
        for text, k in (('0 + 1*a', 0), ('1 + 0', 1), ('-3 + 0 + 1*a', 1), ('1*a + 0', 1), ('0 + 0', 0), ('1*a + 0*b', 1), ('1 + 0*a', 1), (' 0', 0),
                        ('0 ', 0), ('0\n', 0), ('-0', 0)):
            self.no_text(k, text)

    def test_signs_between_terms(self):
        self.no_text(0, ' + ')
        self.no_text(0, ' + 1*a')
        self.no_text(1, '1*a + ')
        self.no_text(1, '1*a +  + 1*b')
        self.no_text(1, '1*a + + 1*b')
        self.no_text(0, '1*a  + 1*b')
        self.no_text(1, '1*a +  1*b')
        self.no_text(0, '1*a\n+ 1*b')
        self.no_text(1, '1*a + \n1*b')
        self.no_text(0, '1*a  1*b')

    def test_words_changed(self):
        # Each text with a character left out, put in or exchanged is either no text or writes just itself.
        for text in ('-1*s + 1*s*s', '3 + 2*a + 1*a*b', '0'):
            for k in range(len(text) + 1):
                for sign in ('', *'0-*+ a\nA1'):
                    for changed in (text[:k] + sign + text[k:], text[:k] + sign + text[k + 1:]):
                        try:
                            count = Count.parsed(changed)
                        except InvalidText as error:
                            self.same(error.line, 0)
                            self.assertIn(error.field, range(len(changed.split(' + '))))
                        else:
                            self.same(str(count), changed)

    def test_no_strings(self):
        for thing in JUNK:
            if not isinstance(thing, str):
                self.fails(NotUsable('text', -1), Count.parsed, thing)
        self.fails(NotUsable('text', -1), Count.parsed, Count())


class UnknownTest(Case):

    def test_names(self):
        for name in ('a', 'abcdefgh', 'zz'):
            self.same(Count.unknown(name).terms, (((name,), 1),))
            self.same(Count.unknown(name=name).worth((name, 6)), 6)
            self.same(Count().unknown(name).names, (name,))

    def test_other_values(self):
        for thing in (*JUNK, 0, 1, ('a',), ['a'], 'a*b', 'ab ', Count()):
            if thing != 'no' and thing != 'zz':
                self.fails(NotUsable('name', -1), Count.unknown, thing)


class CopyTest(Case):

    def test_a_copy_is_equal(self):
        for terms in GOOD:
            self.assertIs(copy.deepcopy(Count(terms)) == Count(terms), True)


if __name__ == '__main__':
    unittest.main()
