import unittest
from itertools import product

from firstletter.errors import InvalidEvent, InvalidPaper, NothingToUndo, NotUsable
from firstletter.lives import Live
from firstletter.misses import missed_kinds
from firstletter.reach import near_of
from firstletter.runclasses import Run
from firstletter.runs import missed_after, takings_after, waiting_after
from firstletter.webchecker import lets_web
from tests import liveoracle
from tests.examples import (A, ALIKE, ALONE, B, C, Case, D, JUNK, LONG, MIXED, NEAR, NO_MARKS, NO_NUMBERS, NO_STORES, ONES,
                            RING, shown)
from tests.liveoracle import LIVED, answer, reason, some_events, told, told_by
from tests.oracle import SETTINGS, after, all_runs, all_stores, row_of
from tests.planoracle import names
from tests.test_likeness import NO_WEBS

SETTING = (NEAR, ONES, 2)
NO_GUARDS = (None, True, False, 0, 1, '', 'On', 'on ', 'off\n', 'of', 'onoff', ('on',), ['on'], (), [], *JUNK)
# No events by form.
SHAPELESS = (
    *JUNK, (), [], 'came', 'guard', ('came',), ('came', A), ('came', A, B, C), ['came', A, B], ('came', [*A], B),
    ('came', A, [*B]), ('came', ('a', True), B), ('came', A, ('b', False)), ('came', ('a', -1), B), ('came', A, ('B', 0)),
    ('came', (A, B)), ('CAME', A, B), (A, B), ('came', 'a', 'b'), ('came', None, B), ('came', A, None), ('came', A, ('b', '0')),
    ('guard',), ('guard', 'ON'), ('guard', True), ('guard', None), ('guard', 'on', 'on'), ['guard', 'on'], ('guard', ('on',)),
    ('guard', ['on']), ('note',), ('note', ''), ('note', 'A'), ('note', 'abcdefghi'), ('note', 'a b'), ('note', 'a\n'),
    ('note', None), ('note', 1), ('note', 'a', 'b'), ('note', ['a']), ['note', 'a'], ('notes', 'a'), (None, 'a'), (True, 'a'),
    (['note'], 'a'), ('came', 'a', 0, 'b', 0), (), ('came', A, B, None),
)


def at(setting, events, guard='off'):
    """A live web behind these events."""
    live = Live(*setting, guard=guard)
    for event in events:
        live.go(event)
    return live


def moves(live, event):
    """The ways to apply an event, each as a function without arguments."""
    ways = [lambda: live.go(event), lambda: live.go(event=event), lambda: live(event)]
    if type(event) is tuple and len(event) == 3 and event[0] == 'came':
        ways += [lambda: live.came(event[1], event[2]), lambda: live.came(store=event[2], sender=event[1])]
    if type(event) is tuple and len(event) == 2 and event[0] == 'guard':
        ways += [lambda: live.set_guard(event[1]), lambda: live.set_guard(word=event[1]), lambda: assign(live, event[1])]
    if type(event) is tuple and len(event) == 2 and event[0] == 'note':
        ways += [lambda: live.note(event[1]), lambda: live.note(name=event[1])]
    return ways


def assign(live, word):
    live.guard_now = word


class LiveCase(Case):

    def is_at(self, live, setting, events, guard='off'):
        self.same(told_by(live), told(setting, guard, tuple(events)))

    def refused(self, live, event, why):
        """Each way to apply an event raises this error, which leaves all but the tally as it was."""
        before = told_by(live)
        for move in moves(live, event):
            many = live.tally()[0]
            with self.assertRaises(InvalidEvent) as caught:
                move()
            self.same((caught.exception.event, caught.exception.reason), (event, why))
            self.same(live.tally(), (many + 1, many + 1))
        self.same(live.barred(event), why)
        many = live.tally()
        with self.assertRaises(InvalidEvent) as caught:
            live.tried(event)
        self.same((caught.exception.event, caught.exception.reason), (event, why))
        self.same(live.tally(), many)
        self.same(told_by(live), before)


class MakingTest(LiveCase):

    def test_examples(self):
        live = Live(NEAR, (1, 1, 1, 1), 2)
        self.same([live.missable(), live.waiting_now, live.came(A, D), live.poor_now],
                  [('c',), ((A, B), (A, D)), 1, ((D, B),)])
        self.same([live.came(A, B), live.missable(), live.came(D, B), live.falls, live.missed_now], [1, (), None, (2,), (C,)])
        live = Live(NEAR, (1, 1, 1, 1), 3, guard='on')
        self.same([live.came(A, D), live.note('early'), live.barred(('came', D, B)), live.set_guard('off')],
                  [2, None, 'poor', None])
        self.same([live.came(D, B), live.came(A, B), live.set_guard('on'), live.waiting_now, live.next_now],
                  [1, None, None, ((B, C),), ()])
        self.same([live.table()[1], live.table()[2], live.taken_since('early'), live[D], live.missable(), live.falls, len(live)],
                  ['b         0  1 sends', 'c         0  - -', (B,), 2, (), (2,), 6])

    def test_beginning(self):
        self.same(Live.MOST, 40)
        for setting in LIVED:
            for guard in ('on', 'off'):
                live = self.kept(Live, *setting, guard=guard)
                self.is_at(live, setting, (), guard)
                self.same(live.tally(), (0, 0))
                self.same(live.MOST, 40)
        self.is_at(Live(guard='on', marks=2, numbers=ONES, web=NEAR), SETTING, (), 'on')
        self.is_at(Live(NEAR, ONES, 2), SETTING, (), 'off')

    def test_each_argument_wrong(self):
        for wrong in NO_WEBS:
            with self.assertRaises(InvalidPaper) as caught:
                lets_web(wrong)
            error = InvalidPaper(caught.exception.word, caught.exception.at)
            self.fails(error, Live, wrong, ONES, 2)
            self.fails(error, Live, wrong, None, None, guard=None)
            self.fails(error, Live, guard='on', marks=2, numbers=ONES, web=wrong)
        self.refuses(Live, NEAR, ('numbers', ONES, NO_NUMBERS), ('marks', 2, NO_MARKS))
        for wrong in NO_GUARDS:
            self.fails(NotUsable('guard', -1), Live, NEAR, ONES, 2, guard=wrong)
        self.fails(NotUsable('numbers', -1), Live, NEAR, (1, 1, 1), -1, guard=None)
        self.fails(NotUsable('marks', -1), Live, NEAR, ONES, -1, guard=None)

    def test_guard_by_name_only(self):
        with self.assertRaises(TypeError):
            Live(NEAR, ONES, 2, 'on')

    def test_great_marks(self):
        live = Live(ALIKE, (2,), 10 ** 59, guard='on')
        self.same(live.came(('s', 0), ('s', 1)), 10 ** 59 - 1)


class EventsTest(LiveCase):

    def test_all_that_is_told(self):
        for n, setting in enumerate(LIVED):
            for guard in ('on', 'off'):
                events = some_events(setting, guard, n, 9)
                live = Live(*setting, guard=guard)
                for k, event in enumerate(events):
                    self.assertIsNone(live.barred(event))
                    self.same(live.go(event), answer(setting, events[:k], event))
                    self.is_at(live, setting, events[:k + 1], guard)
                    self.same(live.tally(), (k + 1, k + 1))

    def test_each_way_to_apply(self):
        for n, setting in enumerate(LIVED[::4]):
            events = some_events(setting, 'off', n, 8)
            for k, event in enumerate(events):
                for j in range(len(moves(None, event))):
                    live = at(setting, events[:k])
                    got = moves(live, event)[j]()
                    self.same(got, answer(setting, events[:k], event))
                    self.is_at(live, setting, events[:k + 1])
                    self.same(live.tally(), (k + 1, k + 1))

    def test_beside_all_runs(self):
        for setting in SETTINGS:
            for made in list(all_runs(*setting, 6))[:25]:
                if len(made) <= 40:
                    live = at(setting, [('came', *letter) for letter in made])
                    self.same(live.run_now, made)
                    self.same(live.waiting_now, waiting_after(*setting, made))
                    self.same(live.takings_now, takings_after(*setting, made))
                    self.same(live.missed_now, missed_after(*setting, made))

    def test_shape(self):
        for live in (at(SETTING, ()), at(SETTING, [('came', A, D), ('note', 'a'), ('guard', 'on')])):
            for event in SHAPELESS:
                self.refused(live, event, 'shape')

    def test_no_stores(self):
        stores = [thing for thing in NO_STORES if liveoracle.is_store(thing)]
        self.assertGreater(len(stores), 2)
        live = at(SETTING, [('came', A, D)])
        for store in stores:
            self.refused(live, ('came', store, B), 'from')
            self.refused(live, ('came', store, store), 'from')
            self.refused(live, ('came', D, store), 'to')
            self.refused(live, ('came', C, store), 'to')
        self.refused(live, ('came', ('d', 1), B), 'from')
        self.refused(live, ('came', A, ('b', 10 ** 59)), 'to')

    def test_no_way(self):
        live = at(SETTING, [('came', A, D), ('guard', 'on')])
        for sender, store in product(all_stores(NEAR, ONES), repeat=2):
            if (sender, store) not in ((A, B), (D, B)):
                self.refused(live, ('came', sender, store), 'way')
        self.refused(live, ('came', D, B), 'poor')
        self.assertIsNone(live.barred(('came', A, B)))

    def test_same_guard_and_same_note(self):
        live = Live(*SETTING)
        self.refused(live, ('guard', 'off'), 'same')
        live.set_guard('on')
        self.refused(live, ('guard', 'on'), 'same')
        live.note('a')
        self.refused(live, ('note', 'a'), 'twice')
        live.undo()
        self.assertIsNone(live.barred(('note', 'a')))
        self.refused(Live(*SETTING, guard='on'), ('guard', 'on'), 'same')

    def test_reasons_of_all_events(self):
        for n, setting in enumerate(LIVED[::3]):
            web, numbers, _ = setting
            for guard in ('on', 'off'):
                events = some_events(setting, guard, n + 50, 6)
                live = Live(*setting, guard=guard)
                stores = [*all_stores(web, numbers), (web[1], 9), ('zz', 0)]
                tests = [('came', *letter) for letter in product(stores, repeat=2)]
                tests += [('guard', 'on'), ('guard', 'off'), ('note', 'early'), ('note', 'zz'), None]
                for k in range(len(events) + 1):
                    for event in tests:
                        self.same(live.barred(event), reason(setting, guard, events[:k], event))
                    if k < len(events):
                        live.go(events[k])
                self.same(live.tally(), (len(events),) * 2)

    def test_full(self):
        events = [('guard', 'off' if k % 2 else 'on') for k in range(40)]
        live = at(SETTING, events[:39])
        self.assertIsNone(live.barred(('came', A, B)))
        self.same(live.came(A, B), 1)
        self.same(len(live), 40)
        for event in (('guard', 'on'), ('guard', 'off'), ('note', 'a'), ('came', A, D), ('came', A, B), ('came', C, B),
                      ('came', ('z', 0), A), ('came', A, ('a', 1))):
            self.refused(live, event, 'full')
        for event in SHAPELESS:
            self.refused(live, event, 'shape')
        # Nothing else changes: letters are on their way as before.
        self.same(live.waiting_now, ((A, D), (B, C)))
        self.same(live.next_now, ((A, D), (B, C)))
        self.same(live.undo(), ('came', A, B))
        self.assertIsNone(live.barred(('came', A, D)))

    def test_forty_letters(self):
        setting = (ALIKE, (7,), 9)
        live = Live(*setting)
        events = []
        while len(events) < 40:
            events.append(('came', *live.waiting_now[0]))
            live.go(events[-1])
        self.same(live.missed_now, ())
        self.assertGreater(len(live.waiting_now), 0)
        self.refused(live, ('came', *live.waiting_now[0]), 'full')

    def test_the_very_event_is_told(self):
        live = Live(*SETTING)
        for event in (['came', [1]], ('came', [A], B), None, [[]]):
            for move in (live.go, live, live.tried, live.do_all):
                with self.assertRaises(InvalidEvent) as caught:
                    move(event)
                self.assertIs(caught.exception.event, event)
        thing = [A]
        with self.assertRaises(InvalidEvent) as caught:
            live.came(thing, B)
        self.assertIs(caught.exception.event[1], thing)

    def test_objects_of_the_package_are_no_events(self):
        live = Live(*SETTING)
        for thing in (live, Run(*SETTING), InvalidPaper('a', 1)):
            self.same(live.barred(thing), 'shape')
            self.same(live.barred(('came', thing, A)), 'shape')
            self.assertNotIn(thing, live)


class GuardTest(LiveCase):

    def test_assigned(self):
        live = Live(*SETTING)
        live.guard_now = 'on'
        self.same((live.guard_now, len(live), live.tally()), ('on', 1, (1, 1)))
        for wrong in NO_GUARDS:
            with self.assertRaises(InvalidEvent) as caught:
                live.guard_now = wrong
            self.same((caught.exception.event, caught.exception.reason), (('guard', wrong), 'shape'))
        with self.assertRaises(InvalidEvent) as caught:
            live.guard_now = 'on'
        self.same((caught.exception.event, caught.exception.reason), (('guard', 'on'), 'same'))
        many = len(NO_GUARDS) + 2
        self.same((live.guard_now, len(live), live.tally()), ('on', 1, (many, many)))
        live.guard_now = 'off'
        self.same((live.guard_now, live.log()[1:]), ('off', (('guard', 'on'), ('guard', 'off'))))

    def test_poor_letters(self):
        live = Live(NEAR, ONES, 3)
        live.came(A, D)
        self.same([live.poor_now, live.next_now], [((D, B),), ((A, B), (D, B))])
        live.guard_now = 'on'
        self.same([live.poor_now, live.next_now, live.waiting_now], [((D, B),), ((A, B),), ((A, B), (D, B))])
        self.refused(live, ('came', D, B), 'poor')
        self.same(live.came(A, B), 2)
        # The store took the ask, so the letter is not poor any more, and falls.
        self.same([live.poor_now, live.next_now, live.came(D, B)], [(), ((B, C), (D, B)), None])

    def test_letters_to_the_kind_of_the_asker(self):
        # The best letter to a store of b leaves 4 marks, as the asking store itself got none.
        live = Live(MIXED, (1, 2, 1), 6)
        self.same(live.poor_now, ())
        live.came(('b', 0), ('c', 0))
        self.same(live.poor_now, ((('c', 0), ('b', 1)),))

    def test_all_poor(self):
        for setting in LIVED:
            for made in list(all_runs(*setting, 4))[:20]:
                if len(made) < 40:
                    live = at(setting, [('came', *letter) for letter in made])
                    poor = liveoracle.poor_letters(*setting, made)
                    self.same([live.poor_now, live.next_now], [poor, live.waiting_now])
                    live.guard_now = 'on'
                    self.same(live.poor_now, poor)
                    self.same(live.next_now, tuple(letter for letter in live.waiting_now if letter not in poor))


class MissableTest(LiveCase):

    def test_literal_runs_that_begin_so(self):
        for setting in SETTINGS:
            web, numbers, marks = setting
            if sum(numbers) > 4:
                continue
            runs = all_runs(*setting, 10 ** 6)
            over = [(made, row[0]) for made, row in runs.items() if not row[2]]
            for made in list(runs)[::max(1, len(runs) // 25)]:
                wanted = tuple(kind for kind in names(web) if any(
                    any(store not in taken for store in all_stores(web, numbers) if store[0] == kind)
                    for run, taken in over if run[:len(made)] == made))
                self.same(at(setting, [('came', *letter) for letter in made]).missable(), wanted)
                self.same(liveoracle.missable(*setting, made), wanted)

    def test_search(self):
        for n, setting in enumerate(LIVED):
            for made in list(all_runs(*setting, 8))[:60:2]:
                if len(made) <= 40:
                    wanted = liveoracle.missable(*setting, made)
                    for guard in ('on', 'off'):
                        live = Live(*setting)
                        live.do_all(*[('came', *letter) for letter in made])
                        if guard == 'on' and len(live) < 40:
                            live.set_guard('on')
                        self.same(live.missable(), wanted)

    def test_numbers_matter(self):
        # In RING with 3 marks c can be missed just if there are two stores of d or more.
        live = Live(RING, (1, 1, 1, 2), 3)
        self.same(live.missable(), ('c',))
        live.came(A, ('d', 0))
        self.same(live.missable(), ('c',))
        live.came(A, ('d', 1))
        # Now none is left to take the ask with the mark 1.
        self.same(live.missable(), ())
        live.undo()
        live.came(('d', 0), ('d', 1))
        self.same(live.missable(), ('c',))
        live.came(('d', 0), B)
        self.same(live.missable(), ())
        live.undo()
        live.came(('d', 1), B)
        self.same(live.missable(), ('c',))

    def test_the_kind_of_the_asker(self):
        self.same(Live(NEAR, (2, 1, 1, 1), 2).missable(), ('a', 'c'))
        self.same(Live(NEAR, ONES, 0).missable(), ('b', 'c', 'd'))
        self.same(Live(NEAR, (2, 1, 1, 1), 0).missable(), ('a', 'b', 'c', 'd'))
        self.same(Live(ALONE, (2,), 3).missable(), ('q',))
        self.same(Live(ALONE, (1,), 3).missable(), ())
        self.same(Live(ALIKE, (2,), 1).missable(), ())


class SequenceTest(LiveCase):

    def test_items(self):
        live = at(SETTING, [('came', A, D), ('came', A, B)])
        self.same([live[A], live[B], live[C], live[D]], [2, 1, None, 1])
        for wrong in (*NO_STORES, *JUNK, live, 0, -1, 'a'):
            self.assertIs(wrong in live, False)
            with self.assertRaises(NotUsable) as caught:
                live[wrong]
            self.same((caught.exception.word, caught.exception.at), ('store', -1))

    def test_iteration(self):
        live = Live(NEAR, (2, 1, 3, 1), 2)
        stores = all_stores(NEAR, (2, 1, 3, 1))
        self.same(list(live), stores)
        self.same([store in live for store in stores], [True] * 7)
        self.assertIs(('c', 3) in live, False)
        self.same([store for store in live if live[store] is not None], [A])

    def test_len(self):
        live = Live(*SETTING)
        self.same(len(live), 0)
        live.note('a')
        live.came(A, B)
        self.same(len(live), 2)
        live.undo()
        self.same(len(live), 1)

    def test_equal(self):
        class Other(Live):
            pass
        events = [('came', A, D), ('note', 'a'), ('guard', 'on')]
        live = at(SETTING, events)
        same = at(SETTING, events)
        self.assertIs(live == same, True)
        self.assertIs(live != same, False)
        same.note('b')
        self.assertIs(live == same, False)
        same.undo()
        self.assertIs(live == same, True)
        other = Other(*SETTING)
        other.do_all(*events)
        self.assertIs(live == other, True)
        self.assertIs(other == live, True)

    def test_unequal(self):
        live = Live(*SETTING)
        for other in (Live(RING, ONES, 2), Live(NEAR, (1, 1, 1, 2), 2), Live(NEAR, ONES, 3), Live(*SETTING, guard='on'),
                      at(SETTING, [('note', 'a')]), at(SETTING, [('guard', 'on')]), at(SETTING, [('came', A, D)])):
            self.assertIs(live == other, False)
            self.assertIs(live != other, True)
        self.assertIs(at(SETTING, [('came', A, B)]) == at(SETTING, [('came', A, D)]), False)
        # What they are at now is the same, but not how they came there.
        self.assertIs(at(SETTING, [('guard', 'on')]) == Live(*SETTING, guard='on'), False)
        self.assertIs(at(SETTING, [('note', 'a'), ('note', 'b')]) == at(SETTING, [('note', 'b'), ('note', 'a')]), False)
        for other in (None, True, 0, (), live.log(), [*live.log()], str(live), '-', NEAR, Run(*SETTING), *JUNK):
            self.assertIs(live == other, False)
            self.assertIs(live != other, True)


class TriedTest(LiveCase):

    def test_good_events(self):
        for n, setting in enumerate(LIVED):
            events = some_events(setting, 'off', n + 7, 8)
            for k in range(len(events) + 1):
                live = at(setting, events[:k])
                before, many = shown(told_by(live)), live.tally()
                wanted = told(setting, 'off', events)
                self.same(live.tried(*events[k:]), (wanted['takings_now'], wanted['waiting_now'], wanted['found_now']))
                self.same((shown(told_by(live)), live.tally()), (before, many))

    def test_bad_events(self):
        live = at(SETTING, [('note', 'a'), ('guard', 'on')])
        before, many = shown(told_by(live)), live.tally()
        good = (('came', A, D), ('note', 'b'), ('guard', 'off'))
        for wrong, why in ((None, 'shape'), (('guard', 'OFF'), 'shape'), (('note', 'a'), 'twice'), (('came', B, C), 'way'),
                           (('came', ('e', 0), C), 'from'), (('came', A, ('e', 0)), 'to')):
            for k in range(3):
                for rest in ((), (None,), good[k:]):
                    with self.assertRaises(InvalidEvent) as caught:
                        live.tried(*good[:k], wrong, *rest)
                    self.same((caught.exception.event, caught.exception.reason), (wrong, why))
        for events, why in (((('came', A, D), ('came', D, B)), 'poor'), ((('note', 'b'), ('note', 'b')), 'twice'),
                            ((('guard', 'off'), ('guard', 'off')), 'same'), ((('came', A, D), ('came', A, D)), 'way')):
            with self.assertRaises(InvalidEvent) as caught:
                live.tried(*events)
            self.same((caught.exception.event, caught.exception.reason), (events[-1], why))
        self.same((shown(told_by(live)), live.tally()), (before, many))

    def test_full(self):
        live = at(SETTING, [('guard', 'off' if k % 2 else 'on') for k in range(37)])
        events = [('came', A, D), ('came', A, B), ('came', D, B)]
        live.undo()
        live.note('a')
        self.same(live.tried(*events)[1], ((B, C),))
        with self.assertRaises(InvalidEvent) as caught:
            live.tried(*events, ('came', B, C))
        self.same((caught.exception.event, caught.exception.reason), (('came', B, C), 'full'))
        self.same(len(live), 37)

    def test_of_nothing(self):
        live = at(SETTING, [('came', A, D)])
        self.same(live.tried(), (live.takings_now, live.waiting_now, live.found_now))


class UndoTest(LiveCase):

    def test_down_to_nothing(self):
        for n, setting in enumerate(LIVED):
            guard = ('on', 'off')[n % 2]
            events = some_events(setting, guard, n + 3, 9)
            live = at(setting, events, guard)
            for k in range(len(events) - 1, -1, -1):
                self.same(live.undo(), events[k])
                self.is_at(live, setting, events[:k], guard)
            self.nothing(live)
            self.is_at(live, setting, (), guard)
            many = 2 * len(events) + 1
            self.same(live.tally(), (many, many))
            live.do_all(*events)
            self.is_at(live, setting, events, guard)

    def nothing(self, live):
        with self.assertRaises(NothingToUndo) as caught:
            live.undo()
        self.same(caught.exception.steps, 0)

    def test_behind_each_kind_of_event(self):
        live = Live(*SETTING)
        self.nothing(live)
        live.guard_now = 'on'
        self.same((live.undo(), live.guard_now), (('guard', 'on'), 'off'))
        self.nothing(live)
        live.note('a')
        self.same(live.undo(), ('note', 'a'))
        live.came(A, B)
        self.same((live.undo(), live[B]), (('came', A, B), None))
        live(('came', A, B))
        live.do_all(('note', 'a'), ('came', B, C))
        live.tried(('came', A, D))
        self.same([live.undo(), live.undo(), live.undo()], [('came', B, C), ('note', 'a'), ('came', A, B)])
        self.nothing(live)


class DoAllTest(LiveCase):

    def test_good_events(self):
        for n, setting in enumerate(LIVED[::2]):
            events = some_events(setting, 'off', n + 9, 8)
            for more in ({}, {'keep': False}, {'keep': True}):
                for k in range(len(events) + 1):
                    live = Live(*setting)
                    self.same(live.do_all(*events[:k], **more), k)
                    self.same(live.do_all(*events[k:], **more), len(events) - k)
                    self.is_at(live, setting, events)
                    self.same(live.tally(), (2, 2))

    def test_bad_events(self):
        good = (('came', A, D), ('note', 'b'), ('guard', 'on'), ('came', A, B))
        for wrong, why in ((None, 'shape'), (('note', 'a'), 'twice'), (('came', B, ('c', 1)), 'to'), (('came', C, B), 'way')):
            for k in range(5):
                for more, kept in (({}, 0), ({'keep': False}, 0), ({'keep': True}, k)):
                    live = at(SETTING, [('note', 'a')])
                    with self.assertRaises(InvalidEvent) as caught:
                        live.do_all(*good[:k], wrong, *good[k:], **more)
                    self.same((caught.exception.event, caught.exception.reason), (wrong, why))
                    self.is_at(live, SETTING, (('note', 'a'), *good[:kept]))
                    self.same(live.tally(), (2, 2))

    def test_keep_is_no_bool(self):
        live = Live(*SETTING)
        for k, wrong in enumerate((None, 0, 1, 'True', '', (), [], (True,), [False], *JUNK)):
            if wrong is True or wrong is False:
                continue
            many = live.tally()[0]
            for events in ((), (None,), (('came', A, D),)):
                with self.assertRaises(NotUsable) as caught:
                    live.do_all(*events, keep=wrong)
                self.same((caught.exception.word, caught.exception.at), ('keep', -1))
            self.same(live.tally(), (many + 3, many + 3))
        self.is_at(live, SETTING, ())

    def test_full(self):
        events = [('guard', 'off' if k % 2 else 'on') for k in range(41)]
        for more, kept in (({}, 0), ({'keep': True}, 40)):
            live = Live(*SETTING)
            with self.assertRaises(InvalidEvent) as caught:
                live.do_all(*events, **more)
            self.same((caught.exception.event, caught.exception.reason), (events[40], 'full'))
            self.same(len(live), kept)

    def test_of_nothing(self):
        live = Live(*SETTING)
        self.same([live.do_all(), live.do_all(keep=True), live.tally()], [0, 0, (2, 2)])


class TallyTest(LiveCase):

    def test_behind_all(self):
        live = Live(*SETTING)
        many = 0
        for call in (lambda: live.came(A, D), lambda: live.came(A, D), lambda: live.set_guard('on'), lambda: live.set_guard(1),
                     lambda: live.note('a'), lambda: live.note('a'), lambda: live.go(('note', 'b')), lambda: live.go(None),
                     lambda: live(('note', 'c')), lambda: live(('came', A, A)), lambda: live.undo(),
                     lambda: live.do_all(('note', 'd'), ('note', 'e')), lambda: live.do_all(None), lambda: live.do_all(keep=1),
                     lambda: assign(live, 'off'), lambda: assign(live, 'off'), lambda: assign(live, None)):
            try:
                call()
            except (InvalidEvent, NotUsable):
                pass
            many += 1
            self.same(live.tally(), (many, many))
        while len(live):
            live.undo()
            many += 1
        with self.assertRaises(NothingToUndo):
            live.undo()
        self.same(live.tally(), (many + 1, many + 1))

    def test_looks_do_not_count(self):
        live = at(SETTING, [('came', A, D), ('note', 'a')])
        told_by(live)
        for look in (lambda: live.tried(('came', A, B)), lambda: live.tried(None), lambda: live.barred(None), lambda: live[C],
                     lambda: live[None], lambda: A in live, lambda: live == live, lambda: live.taken_since('b'),
                     lambda: live.waiting_then('b'), lambda: live.tally(), lambda: live.log(), lambda: str(live)):
            try:
                look()
            except (InvalidEvent, NotUsable):
                pass
            self.same(live.tally(), (2, 2))

    def test_two_live_webs(self):
        one, other = Live(*SETTING), Live(*SETTING)
        one.came(A, D)
        one.note('a')
        other.came(A, B)
        self.same([one.tally(), other.tally(), one.run_now, other.run_now], [(2, 2), (1, 1), ((A, D),), ((A, B),)])
        self.assertIsNone(other.barred(('note', 'a')))


class NotesTest(LiveCase):

    def no_note(self, live, name):
        for look in (live.taken_since, live.waiting_then):
            with self.assertRaises(NotUsable) as caught:
                look(name)
            self.same((caught.exception.word, caught.exception.at), ('name', -1))

    def test_since_and_then(self):
        live = Live(*SETTING)
        live.note('first')
        live.came(A, D)
        live.note('second')
        live.note('third')
        live.came(D, B)
        live.came(A, B)
        self.same([live.taken_since('first'), live.taken_since('second'), live.taken_since(name='third')],
                  [(B, D), (B,), (B,)])
        self.same([live.waiting_then('first'), live.waiting_then('second'), live.waiting_then(name='third')],
                  [((A, B), (A, D)), ((A, B), (D, B)), ((A, B), (D, B))])
        live.note('last')
        self.same([live.taken_since('last'), live.waiting_then('last')], [(), ()])

    def test_no_notes(self):
        live = at(SETTING, [('note', 'a'), ('came', A, D)])
        for name in ('b', 'aa', '', 'A', None, True, 0, ('a',), ['a'], ('note', 'a'), (), [], live, *JUNK):
            self.no_note(live, name)
        self.no_note(Live(*SETTING), 'a')

    def test_taken_back_and_set_again(self):
        live = at(SETTING, [('note', 'a'), ('came', A, D)])
        self.same(live.taken_since('a'), (D,))
        live.undo()
        live.undo()
        self.no_note(live, 'a')
        live.came(A, D)
        live.note('a')
        self.same([live.taken_since('a'), live.waiting_then('a')], [(), ((A, B), (D, B))])
        with self.assertRaises(InvalidEvent):
            live.do_all(('note', 'b'), None)
        self.no_note(live, 'b')
        live.tried(('note', 'b'))
        self.no_note(live, 'b')
        with self.assertRaises(InvalidEvent):
            live.do_all(('note', 'b'), None, keep=True)
        self.same(live.taken_since('b'), ())


class TableTest(LiveCase):

    def test_names_of_eight_letters(self):
        web = ((('abcdefgh', 2, False, ('abcdefgi', 'b')), ('abcdefgi', 3, False, ('b',)), ('b', 1, True, ('b',))), 'abcdefgh')
        setting = (web, (1, 12, 1), 20)
        live = Live(*setting)
        self.same(live.table(), ['abcdefgh  0 20 sends', *[f'abcdefgi {k:>2}  - -' for k in range(12)], 'b         0  - -'])
        live.came(('abcdefgh', 0), ('abcdefgi', 11))
        live.came(('abcdefgi', 11), ('b', 0))
        self.same(live.table()[12:], ['abcdefgi 11 18 sends', 'b         0 15 has'])

    def test_words(self):
        self.same(Live(NEAR, ONES, 0).table()[0], 'a         0  0 stops')
        self.same(Live(NEAR, ONES, 1).table()[0], 'a         0  1 sends')
        # Who has enough marks sends, even if there is nobody who gets a letter.
        self.same(Live(ALONE, (2,), 2).table(), ['q         0  2 sends', 'q         1  - -'])
        live = Live(MIXED, (1, 1, 1), 2)
        live.came(('b', 0), ('a', 0))
        live.came(('b', 0), ('c', 0))
        self.same(live.table(), ['a         0  0 has', 'b         0  2 sends', 'c         0  0 stops'])

    def test_a_new_list(self):
        live = Live(*SETTING)
        table = live.table()
        self.assertIs(type(table), list)
        table.clear()
        self.same(len(live.table()), 4)


class ConsequencesTest(LiveCase):

    def test_what_is_told_of_run_now(self):
        for n, setting in enumerate(LIVED):
            live = at(setting, some_events(setting, 'on', n + 20, 9), 'on')
            made = live.run_now
            self.same(live.takings_now, takings_after(*setting, made))
            self.same(live.waiting_now, waiting_after(*setting, made))
            self.same(live.missed_now, missed_after(*setting, made))

    def test_missable(self):
        for n, setting in enumerate(LIVED):
            live = Live(*setting)
            self.same(live.missable(), missed_kinds(*setting))
            before = live.missable()
            asking = (setting[0][1], 0)
            while live.waiting_now and len(live) < 40:
                live.came(*live.waiting_now[(7 * len(live) + n) % len(live.waiting_now)])
                now = live.missable()
                self.assertLessEqual(set(now), set(before))
                before = now
                for kind, i in live:
                    if live[kind, i] is not None and (kind, i) != asking:
                        self.assertNotIn(kind, now)
            if not live.waiting_now:
                self.same(before, tuple(sorted({kind for kind, _ in live.missed_now})))

    def test_guard_on_all_the_time(self):
        for n, setting in enumerate(LIVED):
            web, _, marks = setting
            live = Live(*setting, guard='on')
            while live.next_now and len(live) < 40:
                live.came(*live.next_now[(5 * len(live) + n) % len(live.next_now)])
            if not live.next_now:
                self.same(live.waiting_now, ())
                near = near_of(web, marks)
                self.same([store for store in live.missed_now if store[0] in near], [])
                best = liveoracle.best_marks(web, marks)
                for store, mark in live.takings_now:
                    if store != (web[1], 0):
                        self.same(mark, best[store[0]])

    def test_the_oracle(self):
        for web, numbers, marks in LIVED:
            best = liveoracle.best_marks(web, marks)
            for made in list(all_runs(web, numbers, marks, 5))[:30]:
                taken, _, waiting = after(web, numbers, marks, made)
                for store, other in waiting:
                    self.assertLessEqual(taken[store] - row_of(web, store[0])[1], best[other[0]])
        self.same(at(SETTING, [('came', *letter) for letter in LONG]).run_now, LONG)


if __name__ == '__main__':
    unittest.main()
