import unittest

from firstletter.eventreadings import read_event, read_log
from firstletter.eventtexts import event_line, log_lines
from firstletter.lives import Live
from tests.examples import A, B, Case, D
from tests.liveoracle import LIVED, line, some_events
from tests.test_replaying import FIRST

LINES = ['live off 2 1,1,1,1 5', 'kind a 1 not b,d', 'kind b 1 not c', 'kind c 1 not -', 'kind d 1 not b', 'asker a']


class EventTextsTest(Case):

    def test_event_lines(self):
        for event, text in ((('came', ('a', 0), ('b', 2)), 'came a 0 b 2'), (('guard', 'on'), 'guard on'),
                            (('guard', 'off'), 'guard off'), (('note', 'early'), 'note early'),
                            (('came', ('abcdefgh', 10 ** 59), ('zz', 0)), 'came abcdefgh 1' + '0' * 59 + ' zz 0'),
                            (('note', 'note'), 'note note'), (('came', A, A), 'came a 0 a 0')):
            self.same(self.kept(event_line, event), text)
            self.same(event_line(event=event), text)
            self.same(read_event(text), event)

    def test_log_lines(self):
        self.same(log_lines((FIRST,)), LINES)
        self.same(log_lines(log=(FIRST, ('came', A, D), ('note', 'a'))), [*LINES, 'came a 0 d 0', 'note a'])
        self.same(log_lines((('live', ((('s', 12, False, ('s',)),), 's'), (10 ** 19,), 0, 'on'), ('guard', 'off'))),
                  ['live on 0 10000000000000000000 2', 'kind s 12 not s', 'asker s', 'guard off'])

    def test_lines_of_live_webs(self):
        for n, setting in enumerate(LIVED):
            for guard in ('on', 'off'):
                live = Live(*setting, guard=guard)
                live.do_all(*some_events(setting, guard, n + 23, 8))
                lines = self.kept(log_lines, live.log())
                many = len(setting[0][0]) + 1
                self.same(lines[0], f'live {guard} {setting[2]} {",".join(str(k) for k in setting[1])} {many}')
                self.same(lines[many + 1:], [line(event) for event in live.log()[1:]])
                self.same(read_log(lines), live.log())

    def test_a_new_list(self):
        log = (FIRST,)
        self.assertIs(type(log_lines(log)), list)
        log_lines(log).clear()
        self.same(log_lines(log), LINES)

    def test_what_is_read_need_not_be_a_log(self):
        # The kinds may stand in any order, and the asker be none of them; the numbers may be too few.
        lines = ['live on 7 3 3', 'kind z 2 has a', 'kind a 1 not q', 'asker q', 'came q 9 q 9', 'guard on', 'guard on']
        log = (('live', ((('z', 2, True, ('a',)), ('a', 1, False, ('q',))), 'q'), (3,), 7, 'on'),
               ('came', ('q', 9), ('q', 9)), ('guard', 'on'), ('guard', 'on'))
        self.same(read_log(lines), log)
        self.same(self.kept(log_lines, log), lines)
        self.same(log_lines(read_log(['live off 0 1 1', 'asker a'])), ['live off 0 1 1', 'asker a'])
        self.same(event_line(('came', B, ('b', 0))), 'came b 0 b 0')


if __name__ == '__main__':
    unittest.main()
