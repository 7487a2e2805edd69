import unittest

from firstletter.errors import InvalidEvent, NotUsable
from firstletter.lives import Live
from firstletter.replaying import is_log, replayed
from tests.examples import A, B, C, Case, D, JUNK, NEAR, NO_MARKS, NO_NUMBERS, ONES
from tests.liveoracle import LIVED, line, some_events, told, told_by
from tests.test_lives import NO_GUARDS, SHAPELESS
from tests.test_likeness import NO_WEBS

FIRST = ('live', NEAR, ONES, 2, 'off')
EVENTS = (('came', A, D), ('note', 'a'), ('guard', 'on'), ('came', A, B))
NO_LOGS = (
    *JUNK, (), [], None, FIRST, [FIRST], (FIRST[1:],), ((*FIRST, 'off'),), (FIRST[:4],), ([*FIRST],), ((FIRST,),),
    (('LIVE', *FIRST[1:]),), ((True, *FIRST[1:]),), ((['live'], *FIRST[1:]),), (('came', A, D), FIRST), (FIRST, FIRST), EVENTS,
    (*EVENTS, FIRST),
    *[(('live', wrong, ONES, 2, 'off'),) for wrong in NO_WEBS], *[(('live', NEAR, wrong, 2, 'off'),) for wrong in NO_NUMBERS],
    *[(('live', NEAR, ONES, wrong, 'off'),) for wrong in NO_MARKS], *[(('live', NEAR, ONES, 2, wrong),) for wrong in NO_GUARDS],
    *[(FIRST, wrong) for wrong in SHAPELESS], *[(FIRST, EVENTS[0], wrong, EVENTS[1]) for wrong in SHAPELESS],
    [FIRST, *EVENTS], (FIRST, EVENTS), (FIRST, [*EVENTS[0]]),
)
# Events that are by form, of which the last one is not possible.
IMPOSSIBLE = (
    ((('came', B, C),), 'way'), ((('came', ('e', 0), C),), 'from'), ((('came', A, ('d', 1)),), 'to'), ((('guard', 'off'),), 'same'),
    ((*EVENTS, ('note', 'a')), 'twice'), ((*EVENTS[:3], ('came', D, B)), 'poor'), ((*EVENTS, ('came', A, B)), 'way'),
    ((*EVENTS, ('guard', 'on')), 'same'), (tuple(('guard', 'off' if k % 2 else 'on') for k in range(41)), 'full'),
)


class LogTest(Case):

    def test_log_and_str(self):
        live = Live(NEAR, ONES, 2)
        self.same((live.log(), str(live)), ((FIRST,), '-'))
        live.do_all(*EVENTS)
        self.same(live.log(), (FIRST, *EVENTS))
        self.same(str(live), 'came a 0 d 0 / note a / guard on / came a 0 b 0')
        live.undo()
        self.same(str(live), 'came a 0 d 0 / note a / guard on')
        # The guard in the log is that of the beginning.
        self.same(Live(NEAR, ONES, 2, guard='on').log(), (('live', NEAR, ONES, 2, 'on'),))
        live.guard_now = 'off'
        self.same(live.log()[0], FIRST)

    def test_all_logs(self):
        for n, setting in enumerate(LIVED):
            for guard in ('on', 'off'):
                events = some_events(setting, guard, n + 13, 10)
                live = Live(*setting, guard=guard)
                live.do_all(*events)
                self.same(live.log(), (('live', *setting, guard), *events))
                self.same(str(live), ' / '.join(line(event) for event in events) or '-')


class IsLogTest(Case):

    def test_logs(self):
        for log in ((FIRST,), (FIRST, *EVENTS), *[(FIRST, *events) for events, _ in IMPOSSIBLE],
                    (FIRST, ('came', ('zz', 10 ** 59), ('zz', 0))), (FIRST, *[('note', 'a')] * 60),
                    (('live', NEAR, (9, 9, 9, 9), 0, 'on'),)):
            self.assertIs(self.kept(is_log, log), True)
            self.assertIs(is_log(thing=log), True)

    def test_no_logs(self):
        for thing in NO_LOGS:
            self.assertIs(self.kept(is_log, thing), False)
        for thing in (Live(NEAR, ONES, 2), Live, (Live(NEAR, ONES, 2),), (FIRST, Live(NEAR, ONES, 2))):
            self.assertIs(is_log(thing), False)


class ReplayedTest(Case):

    def test_good_logs(self):
        for n, setting in enumerate(LIVED):
            for guard in ('on', 'off'):
                events = some_events(setting, guard, n + 17, 10)
                live = Live(*setting, guard=guard)
                live.do_all(*events)
                again = self.kept(replayed, live.log())
                self.same(told_by(again), told(setting, guard, events))
                self.same(again.tally(), (0, 0))
                self.assertIs(type(again), Live)
                self.assertIsNot(again, live)
                self.assertIs(again == live, True)
                self.same(again.log(), live.log())

    def test_a_replayed_live_web_goes_on(self):
        live = replayed(log=(FIRST, *EVENTS))
        self.same([live.undo(), live.taken_since('a'), live.came(A, B), live.tally()], [EVENTS[3], (), 1, (2, 2)])

    def test_impossible_events(self):
        for events, why in IMPOSSIBLE:
            for more in ((), (('note', 'zz'),), (('guard', 'off'), ('guard', 'off'))):
                self.fails(InvalidEvent(events[-1], why), replayed, (FIRST, *events, *more))

    def test_the_first_error(self):
        self.fails(InvalidEvent(('came', B, C), 'way'), replayed, (FIRST, ('came', B, C), ('guard', 'off'), ('came', A, A)))
        self.fails(InvalidEvent(('guard', 'off'), 'same'), replayed, (FIRST, ('guard', 'off'), ('came', B, C)))

    def test_no_logs(self):
        for thing in NO_LOGS:
            self.fails(NotUsable('log', -1), replayed, thing)
        self.fails(NotUsable('log', -1), replayed, Live(NEAR, ONES, 2))
        # No log at all is told ahead of an event that is not possible.
        self.fails(NotUsable('log', -1), replayed, (FIRST, ('came', B, C), None))


if __name__ == '__main__':
    unittest.main()
