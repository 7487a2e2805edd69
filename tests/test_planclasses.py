import re
import unittest

from firstletter.errors import InvalidText, NotUsable
from firstletter.planclasses import Plan
from firstletter.plans import fits, is_closed, kinds_of, near_kinds, pairs_of, quiet_kinds, uses_of
from tests import planoracle
from tests.examples import (ALIKE, ALONE, Case, JUNK, MIXED, NEAR, NO_MARKS, NO_NUMBERS, ONES, RING, shown)
from tests.oracle import HAVING
from tests.planoracle import PLANNED, all_pairs, all_plans, is_led, subsets
from tests.test_plans import NO_PLANS, ONCE, TWICE
from tests.test_runclasses import NO_INDEXES, SIXTY

RINGED = all_plans(RING, 2)
SOME = [(web, marks, plan) for web, marks in PLANNED for plan in all_plans(web, marks)[:20]]
WORD = re.compile('[a-z]{1,8}:(0|[1-9][0-9]{0,59})')
WORDS = ('', '-', ':', 'a', 'a:', ':3', '3:a', 'a:3:3', 'a:03', 'a:00', 'a:-1', 'a:+3', 'A:3', 'a:3\n', '\na:3', 'a\n:3', 'a:x',
         'a::3', 'a,3', 'a:1_0', 'abcdefghi:3', f'a:{SIXTY}0', f'a:0{SIXTY}', 'a:None', "('a',3)", 'a:True', '--', '-:1',
         'a:0', 'a:3', 'a:2', 'b:0', 'b:1', 'd:0', 'd:1', 'd:2', 'd:3', 'zz:1', f'abcdefgh:{SIXTY}', 'c:10', 'c:9')


def told(plan):
    """All that a Plan tells of itself."""
    return (plan.web, plan.marks, plan.pairs, plan.kinds, plan.near, plan.quiet, plan.uses, plan.is_closed, len(plan), str(plan))


def key(word):
    """The pair that a right word writes."""
    name, mark = word.split(':')
    return name, int(mark)


def fault_of_text(text):
    """The index of the first word that cannot stand, or None."""
    words = text.split(' ')
    if words[0] == '-':
        return 1 if len(words) > 1 else None
    for k, word in enumerate(words):
        if WORD.fullmatch(word) is None or (k > 0 and key(word) <= key(words[k - 1])):
            return k
    return None


class PlanTest(Case):

    def is_plan_of(self, plan, web, marks, pairs):
        """A Plan that tells what it has to tell."""
        self.assertIs(type(plan), Plan)
        self.same(told(plan), (web, marks, pairs, kinds_of(web, marks, pairs), near_kinds(web, marks, pairs),
                               quiet_kinds(web, marks, pairs), uses_of(web, marks, pairs), is_closed(web, marks, pairs),
                               len(pairs), ' '.join(f'{name}:{mark}' for name, mark in pairs) or '-'))

    def test_examples(self):
        plan = Plan.first(RING, 3) + ('d', 2)
        self.same([str(plan), plan.near, plan.is_closed, (plan + ('d', 1)).is_closed, ('b', 1) in plan,
                   plan <= Plan.widest(RING, 3)], ['a:3 d:2', ('b', 'd'), False, True, False, True])
        self.same([str(more) for more in plan.grown()], ['a:3 b:1 d:2', 'a:3 b:2 d:2', 'a:3 d:1 d:2'])
        self.same([str(Plan.widest(RING, 3, without=('b',))), Plan.parsed(RING, 3, 'a:3 d:1 d:2').uses,
                   str(Plan.first(RING, 0))], ['a:3 d:1 d:2', (1, 0, 0, 2), '-'])
        self.fails(InvalidText(0, 1), Plan.parsed, RING, 3, 'a:3 d:02')

    def test_properties(self):
        for web, marks, pairs in SOME:
            self.is_plan_of(self.kept(Plan, web, marks, pairs), web, marks, pairs)
        self.is_plan_of(Plan(pairs=TWICE, marks=3, web=RING), RING, 3, TWICE)

    def test_errors(self):
        self.refuses(Plan, RING, ('marks', 3, NO_MARKS), ('pairs', TWICE, (*NO_PLANS, Plan(RING, 3, TWICE))))
        self.fails(NotUsable('pairs', -1), Plan, RING, 0, (('a', 0),))
        self.fails(NotUsable('pairs', -1), Plan, RING, 4, TWICE)
        self.fails(NotUsable('pairs', -1), Plan, NEAR, 3, TWICE)

    def test_fits(self):
        for web, marks, pairs in SOME:
            plan = Plan(web, marks, pairs)
            for number in (1, 2, 3, 10 ** 20):
                numbers = (number,) * len(web[0])
                self.assertIs(self.kept(plan.fits, numbers), fits(web, numbers, marks, pairs))
        plan = Plan(RING, 3, TWICE)
        self.assertIs(plan.fits(numbers=(1, 1, 1, 2)), True)
        for wrong in (*NO_NUMBERS, plan):
            self.fails(NotUsable('numbers', -1), plan.fits, wrong)

    def test_items(self):
        for pairs in (*RINGED, (('a', 2),)):
            plan = Plan(RING, 2, pairs)
            self.same([plan[k] for k in range(len(pairs))], list(pairs))
            for wrong in (*NO_INDEXES, len(pairs), len(pairs) + 1, -len(pairs), plan, slice(0, 1)):
                self.fails(NotUsable('k', -1), lambda value: plan[value], wrong)
        empty = Plan(RING, 0, ())
        self.fails(NotUsable('k', -1), lambda value: empty[value], 0)

    def test_membership(self):
        plan = Plan(RING, 3, TWICE)
        for pair in TWICE:
            self.assertIs(pair in plan, True)
        for thing in (*JUNK, *NO_PLANS, ('a', 2), ('d', True), ['d', 1], ('b', 1), 'a', 'd', TWICE, plan, TWICE[:1], 'a:3'):
            self.assertIs(thing in plan, thing == ('a', 3))
        self.assertIs(('s', True) in Plan(ALIKE, 1, (('s', 1),)), False)
        self.assertIs(('s', 1) in Plan(ALIKE, 1, (('s', 1),)), True)

    def test_no_iteration(self):
        for plan in (Plan(RING, 3, TWICE), Plan(RING, 0, ())):
            for function in (list, iter, tuple, sorted, set):
                with self.assertRaises(TypeError):
                    function(plan)

    def test_equality_and_order(self):
        settings = [(RING, 2), (NEAR, 2), (RING, 3), (ALIKE, 2), (RING, 0), (NEAR, 0)]
        rows = [(web, marks, pairs) for web, marks in settings for pairs in planoracle.grown_closed_plans(web, marks)[:6]]
        rows += [(RING, 2, pairs) for pairs in RINGED]
        rows += [(RING, 3, pairs) for pairs in (ONCE, TWICE, (('a', 3),), (('a', 3), ('b', 2)))]
        for row in rows:
            for other_row in rows:
                plan, other = Plan(*row), Plan(*other_row)
                is_same = row[:2] == other_row[:2]
                self.assertIs(plan == other, row == other_row)
                self.assertIs(plan != other, row != other_row)
                is_most = is_same and set(row[2]) <= set(other_row[2])
                self.assertIs(plan <= other, is_most)
                self.assertIs(other >= plan, is_most)
        plan = Plan(RING, 3, TWICE)
        for thing in (*JUNK, *NO_PLANS, TWICE, str(plan), (RING, 3, TWICE)):
            self.assertIs(plan == thing, False)
            self.assertIs(thing == plan, False)
            self.assertIs(plan != thing, True)
            with self.assertRaises(TypeError):
                self.assertTrue(plan <= thing)
            with self.assertRaises(TypeError):
                self.assertTrue(plan >= thing)

    def test_both(self):
        plans = [Plan(RING, 2, pairs) for pairs in RINGED]
        for plan in plans:
            for other in plans:
                both = plan | other
                self.is_plan_of(both, RING, 2, tuple(sorted({*plan.pairs, *other.pairs})))
                self.assertTrue(plan <= both and other <= both)
                for more in plans:
                    if plan <= more and other <= more:
                        self.assertTrue(both <= more)
        for web, marks in PLANNED:
            rows = all_plans(web, marks)[:15]
            for pairs in rows:
                for others in rows:
                    both = Plan(web, marks, pairs) | Plan(web, marks, others)
                    self.same(both.pairs, tuple(sorted({*pairs, *others})))

    def test_both_of_others(self):
        plan = Plan(RING, 3, TWICE)
        for wrong in (*JUNK, *NO_PLANS, TWICE, Plan(RING, 2, (('a', 2),)), Plan(NEAR, 3, (('a', 3),)), Plan(ALIKE, 3, (('s', 3),)),
                      str(plan), {'a': 1}):
            self.fails(NotUsable('other', -1), lambda value: plan | value, wrong)
        self.same(told(plan), told(Plan(RING, 3, TWICE)))
        dearer = ((*RING[0][:2], ('c', 2, False, ()), RING[0][3]), 'a')
        self.fails(NotUsable('other', -1), lambda value: plan | value, Plan(dearer, 3, TWICE))

    def test_a_pair_more(self):
        for web, marks, pairs in SOME:
            plan = Plan(web, marks, pairs)
            right = [pair for pair in all_pairs(web, marks) if pair in pairs or is_led(web, pairs, pair)]
            for name, _, _, _ in web[0]:
                for mark in range(-1, marks + 2):
                    if (name, mark) in right:
                        self.is_plan_of(plan + (name, mark), web, marks, tuple(sorted({*pairs, (name, mark)})))
                    else:
                        self.fails(NotUsable('pair', -1), lambda value: plan + value, (name, mark))
            more = [pair for pair in right if pair not in pairs]
            self.same([row.pairs for row in plan.grown()], [tuple(sorted((*pairs, pair))) for pair in more])
            self.assertEqual({type(row) for row in plan.grown()} - {Plan}, set())
            self.same(plan.pairs, pairs)

    def test_no_pair_more(self):
        plan = Plan(RING, 3, ONCE)
        for wrong in (*JUNK, (), ['d', 1], ('d', True), ('d', '1'), ('d',), ('d', 1, 1), ('e', 1), ('b', 0), ('d', 0), ('c', 1),
                      ('c', 0), ('a', 2), ('b', 3), ('d', 3), TWICE, TWICE[1:2], plan, 'd:1', ('d', None), ('d', -1)):
            self.fails(NotUsable('pair', -1), lambda value: plan + value, wrong)
        self.is_plan_of(plan + ('d', 1), RING, 3, TWICE)
        self.is_plan_of(plan + ('d', 2), RING, 3, ONCE)
        self.is_plan_of(plan, RING, 3, ONCE)
        empty = Plan(RING, 0, ())
        for pair in (('a', 0), ('a', 1), ('b', 0)):
            self.fails(NotUsable('pair', -1), lambda value: empty + value, pair)
        self.same(list(empty.grown()), [])

    def test_grown_is_a_generator(self):
        told_one = Plan(RING, 3, ONCE).grown()
        self.same(next(told_one).pairs, (('a', 3), ('b', 1), ('d', 2)))
        self.same([row.pairs for row in told_one], [(('a', 3), ('b', 2), ('d', 2)), TWICE])
        with self.assertRaises(StopIteration):
            next(told_one)

    def test_by_pairs_with_greater_marks_first(self):
        for web, marks, pairs in SOME:
            plan = Plan.first(web, marks)
            for pair in sorted(pairs, key=lambda row: -row[1]):
                plan = plan + pair
            self.same(plan.pairs, pairs)

    def test_a_plan_never_changes(self):
        plan = Plan(RING, 3, ONCE)
        kept, before = plan, told(plan)
        plan += ('d', 1)
        self.assertIsNot(plan, kept)
        plan |= Plan.widest(RING, 3)
        self.same((told(kept), plan.pairs), (before, pairs_of(RING, 3)))
        for name in ('web', 'marks', 'pairs', 'kinds', 'near', 'quiet', 'uses', 'is_closed'):
            self.assertIsInstance(vars(Plan)[name], property)
            with self.assertRaises(AttributeError):
                setattr(kept, name, ())
        with self.assertRaises(TypeError):
            kept[0] = ('a', 3)
        with self.assertRaises(TypeError):
            del kept[0]
        self.same(told(kept), before)
        self.assertNotEqual(shown(told(plan)), shown(before))


class FirstAndWidestTest(Case):

    def test_first(self):
        for web, marks in PLANNED:
            has_marks = (web[1], marks) in all_pairs(web, marks)
            plan = self.kept(Plan.first, web, marks)
            self.same((type(plan).__name__, plan.web, plan.marks), ('Plan', web, marks))
            self.same(plan.pairs, ((web[1], marks),) if has_marks else ())
        self.same(Plan.first(marks=2, web=MIXED).pairs, (('b', 2),))
        self.refuses(Plan.first, RING, ('marks', 3, NO_MARKS))
        for name in ('first', 'widest', 'parsed'):
            self.assertIsInstance(vars(Plan)[name], classmethod)

    def test_widest(self):
        for web, marks in PLANNED:
            self.same(told(Plan.widest(web, marks)), told(Plan(web, marks, pairs_of(web, marks))))
            names = [row[0] for row in web[0] if row[0] != web[1]]
            for without in subsets(names):
                plan = self.kept(Plan.widest, web, marks, without=without)
                rows = [pairs for pairs in all_plans(web, marks) if not any(name in without for name, _ in pairs)]
                self.same(plan.pairs, max(rows, key=len))
                self.assertTrue(all(set(pairs) <= set(plan.pairs) for pairs in rows))

    def test_marks_below_the_fee_of_the_asker(self):
        for web, marks in ((NEAR, 0), (MIXED, 1), (ALONE, 1)):
            self.same(Plan.first(web, marks).pairs, ())
            for without in subsets([row[0] for row in web[0] if row[0] != web[1]]):
                self.same(Plan.widest(web, marks, without=without).pairs, ())

    def test_without(self):
        wrongs = (*JUNK, 'b', ['b'], ('a',), ('a', 'b'), ('b', 'a'), ('b', 'b'), ('d', 'b'), ('b', 'e'), ('e',), ('b', None),
                  ('B',), ('b', 1), (('b',),), ('b', True), {'b'}, {'b': 1}, ('bb',), ('',))
        for wrong in wrongs:
            self.fails(NotUsable('without', -1), Plan.widest, RING, 3, without=wrong)
            self.fails(NotUsable('marks', -1), Plan.widest, RING, -1, without=wrong)
        self.refuses(Plan.widest, RING, ('marks', 3, NO_MARKS))
        self.same(Plan.widest(HAVING, 3, without=('b',)).pairs, (('a', 1), ('a', 2), ('a', 3)))
        self.same(str(Plan.widest(RING, 3, without=('b', 'd'))), 'a:3')
        self.same(str(Plan.widest(without=('d',), marks=3, web=RING)), 'a:3 b:2 c:1')
        with self.assertRaises(TypeError):
            Plan.widest(RING, 3, ())


class ParsedTest(Case):

    def test_what_is_written_is_read(self):
        for web, marks, pairs in SOME:
            plan = Plan(web, marks, pairs)
            read = self.kept(Plan.parsed, web, marks, str(plan))
            self.assertIs(read == plan, True)
            self.same(told(read), told(plan))
        self.same(Plan.parsed(text='-', marks=0, web=RING).pairs, ())
        self.same(Plan.parsed(ALIKE, 10, 's:9 s:10').pairs, (('s', 9), ('s', 10)))

    def test_errors_ahead(self):
        no_texts = [thing for thing in JUNK if not isinstance(thing, str)] + [TWICE, (), Plan(RING, 3, TWICE)]
        self.refuses(Plan.parsed, RING, ('marks', 3, NO_MARKS), ('text', 'a:3', no_texts))
        self.fails(NotUsable('marks', -1), Plan.parsed, RING, -1, 'x')

    def test_texts_with_faults(self):
        words = ['a:3', 'd:1', 'd:2']
        for k in range(4):
            for word in WORDS:
                for rest in (words[k:], words[k + 1:], ['', *words[k:]], words[:k]):
                    self.check(' '.join([*words[:k], word, *rest]))
        whole = ' '.join(words)
        for text in ('', ' ', '  ', '- ', ' -', '- a:3', 'a:3 -', '- -', '-\n', '\n', whole + ' ', ' ' + whole, whole + '\n',
                     whole.replace(' ', '  '), whole.replace(' ', '\n'), 'd:1 a:3', 'a:3 a:3', 'a:3 d:2 d:1', 'd:10 d:9',
                     'd:9 d:10', *[whole[:k] for k in range(len(whole))],
                     *[whole[:k] + whole[k + 1:] for k in range(len(whole))]):
            self.check(text)

    def check(self, text):
        fault = fault_of_text(text)
        if fault is not None:
            self.fails(InvalidText(0, fault), Plan.parsed, RING, 3, text)
            return
        pairs = () if text == '-' else tuple(key(word) for word in text.split(' '))
        if all(pair in all_pairs(RING, 3) for pair in pairs) and planoracle.is_a_plan(RING, 3, pairs):
            self.same(Plan.parsed(RING, 3, text).pairs, pairs)
        else:
            self.fails(NotUsable('pairs', -1), Plan.parsed, RING, 3, text)

    def test_no_plans(self):
        for setting in ((RING, 3, '-'), (RING, 3, 'd:2'), (RING, 3, 'a:3 d:1'), (RING, 3, 'a:3 e:2'), (RING, 0, 'a:0'),
                        (RING, 3, 'a:3 b:0'), (RING, 3, f'a:{SIXTY}'), (NEAR, 3, 'a:3 d:1 d:2')):
            self.fails(NotUsable('pairs', -1), Plan.parsed, *setting)
        self.same(Plan.parsed(ALONE, int(SIXTY), f'q:{SIXTY}').pairs, (('q', int(SIXTY)),))
        self.fails(InvalidText(0, 0), Plan.parsed, ALONE, int(SIXTY) * 10, f'q:{SIXTY}0')
        self.fails(NotUsable('numbers', -1), Plan(RING, 3, TWICE).fits, ONES[:3])


if __name__ == '__main__':
    unittest.main()
