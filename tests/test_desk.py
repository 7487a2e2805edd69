import unittest

from firstletter.desk import Desk
from firstletter.errors import InvalidEvent, InvalidPaper, InvalidRow, LetterError, NothingToUndo, NotUsable
from firstletter.eventreadings import read_log
from firstletter.eventtexts import log_lines
from firstletter.lives import Live
from tests.examples import A, B, C, Case, D, NEAR, ONES, fields_of
from tests.liveoracle import LIVED, fault_of_event, fault_of_lines, line, some_events, told
from tests.test_eventreadings import EVENT_LINES, word_changes
from tests.test_eventtexts import LINES
from tests.test_replaying import FIRST

BEGINNING = '\n'.join(LINES)
LOOKS = ('events', 'log', 'guard', 'found', 'run', 'waiting', 'poor', 'next', 'falls', 'takings', 'missed', 'missable', 'table',
         'web')
NO_ROWS = (
    '', ' ', '\n', 'undo ', ' undo', 'undo 1', 'undo\n', '\nundo', 'Undo', 'UNDO', 'und', 'undoo', 'events ', 'log\n', 'guard\n',
    'guard ', 'guard no', 'guard on ', 'guard  on', 'guard on\n', 'found?', 'run ', 'waiting\nrun', 'poor 1', 'next next', 'falls ',
    'takings a', 'missed ', 'missable c', 'table\n', 'web ', 'mark', 'mark ', 'mark a', 'mark a ', 'mark a 0 ', 'mark  a 0',
    'mark a  0', 'mark a 00', 'mark a 01', 'mark a -1', 'mark A 0', 'mark a 0 0', 'mark a 0\n', 'mark\na 0', 'mark 0 a', 'mark a@0',
    'mark a ' + '9' * 61, 'mark abcdefghi 0', 'marks a 0', 'since', 'since ', 'since A', 'since a ', 'since  a', 'since a b',
    'since a\n', 'since 1', 'since abcdefghi', 'then', 'then ', 'then A', 'then a ', 'then a b', 'then a\n', 'then a 0', 'bars',
    'bars ', 'bars undo', 'bars came', 'bars came a 0 b', 'bars came a 0 b 00', 'bars  guard on', 'bars guard on ', 'bars guard on\n',
    'bars note A', 'bars bars guard on', 'barsguard on', 'came', 'came a 0 b', 'came a 0 b 0 ', 'came a 0 b 0\n', 'came a 0 b 00',
    'came  a 0 b 0', 'note', 'note ', 'note A', 'note a b', 'note a\n', 'live', 'live off 2 1,1,1,1 5', 'ok', '-', 'on', 'a', 'None',
    'guard on\nguard off', 'tally', 'say', 'came a 0 b 0 / came a 0 d 0', BEGINNING + '\n', BEGINNING + '\nguard on', '\n' + BEGINNING,
    BEGINNING + ' ', ' ' + BEGINNING, BEGINNING.replace('\n', ' / '), BEGINNING[:-1], BEGINNING.replace('live off', 'live of'),
    BEGINNING.replace(' 5\n', ' 4\n'), BEGINNING.replace(' 5\n', ' 6\n'), BEGINNING.replace('1,1,1,1', '1,0,1,1'),
    BEGINNING.replace('\n', '\n\n'), BEGINNING + '\n' + BEGINNING, 'web\n', 'taken', 'since\na',
)


def beginning(setting, guard='off'):
    return '\n'.join(log_lines((('live', *setting, guard),)))


def joined(words):
    return ' '.join(words) or '-'


def stores(rows):
    return joined([f'{name}@{i}' for name, i in rows])


def letters(rows):
    return joined([f'{name}@{i}@{other}@{j}' for (name, i), (other, j) in rows])


def looks(setting, guard, events):
    """What a desk says to each row that asks, by what the oracle tells."""
    now = told(setting, guard, events)
    return {
        'events': str(len(events)), 'log': now['str'], 'guard': now['guard_now'], 'found': 'yes' if now['found_now'] else 'no',
        'run': letters(now['run_now']), 'waiting': letters(now['waiting_now']), 'poor': letters(now['poor_now']),
        'next': letters(now['next_now']), 'falls': joined([str(k) for k in now['falls']]),
        'takings': joined([f'{name}@{i}@{mark}' for (name, i), mark in now['takings_now']]), 'missed': stores(now['missed_now']),
        'missable': joined(now['missable']), 'table': ' / '.join(now['table']),
        'web': beginning(setting).partition('\n')[2].replace('\n', ' / '),
        **{f'mark {name} {i}': '-' if mark is None else str(mark) for (name, i), mark in zip(now['stores'], now['marks'])},
        **{f'since {name}': stores(rows) for name, rows in now['since']},
        **{f'then {name}': letters(rows) for name, rows in now['then']},
    }


class DeskCase(Case):

    def raises(self, wanted, desk, row):
        """A row raises this error, which counts in the tally, and leaves the desk as it was."""
        before, many = self.said(desk), desk.tally()[0]
        with self.assertRaises(LetterError) as caught:
            desk.say(row)
        self.assertIs(type(caught.exception), type(wanted), row)
        self.assertEqual(fields_of(caught.exception), fields_of(wanted), row)
        self.same(desk.tally(), (many + 1, many + 1))
        self.same(self.said(desk), before)

    def said(self, desk):
        """All that a desk says; None if it has no live web."""
        try:
            return [desk.say(row) for row in LOOKS]
        except InvalidRow:
            return None

    def desk_at(self, setting, events=(), guard='off'):
        desk = Desk()
        self.same(desk.say(beginning(setting, guard)), 'ok')
        for event in events:
            desk.say(line(event))
        return desk


class BeginningTest(DeskCase):

    def test_example(self):
        desk = Desk()
        self.same([desk.say('\n'.join(log_lines((('live', NEAR, (1, 1, 1, 1), 2, 'off'),)))), desk.say('came a 0 d 0'),
                   desk.say('waiting')], ['ok', '1', 'a@0@b@0 d@0@b@0'])
        self.same([desk.say('came d 0 b 0'), desk.say('missable'), desk.say('bars came b 0 c 0'), desk.say('undo'),
                   desk.say('takings')], ['0', 'c', 'way', 'came d 0 b 0', 'a@0@2 d@0@1'])

    def test_ahead_of_the_first_live_web(self):
        desk = Desk()
        self.same(desk.tally(), (0, 0))
        rows = (*NO_ROWS, *LOOKS, *EVENT_LINES, 'undo', 'mark a 0', 'mark zz 9', 'since a', 'then a', 'bars guard on')
        for k, row in enumerate(rows):
            with self.assertRaises(InvalidRow) as caught:
                desk.say(row)
            self.assertIs(caught.exception.row, row)
            self.same(desk.tally(), (k + 1, k + 1))
        self.same(desk.say(row=BEGINNING), 'ok')
        self.same(desk.say('events'), '0')

    def test_errors_of_live(self):
        web, numbers, marks = FIRST[1:4]
        good = '\n'.join(LINES)
        rows = (
            (good.replace('asker a', 'asker e'), InvalidPaper('asker', -1)),
            (good.replace('kind b 1', 'kind e 1'), InvalidPaper('kind', 2)),
            (good.replace('kind a', 'kind c'), InvalidPaper('kind', 1)),
            (good.replace('not b,d', 'not b,e'), InvalidPaper('table', 0)),
            (good.replace('kind a 1 not', 'kind a 1 has'), InvalidPaper('asker', -1)),
            (good.replace('1,1,1,1', '1,1,1'), NotUsable('numbers', -1)),
            (good.replace('1,1,1,1', '1,1,1,1,1'), NotUsable('numbers', -1)),
            (good.replace('1,1,1,1', '1').replace('asker a', 'asker e'), InvalidPaper('asker', -1)),
            ('live off 2 1 1\nasker a', InvalidPaper('asker', -1)),
        )
        for row, error in rows:
            self.raises(error, Desk(), row)
            desk = self.desk_at((web, numbers, marks), (('came', A, D), ('note', 'a')))
            self.raises(error, desk, row)
            self.same(desk.say('log'), 'came a 0 d 0 / note a')

    def test_a_new_live_web(self):
        desk = self.desk_at((NEAR, ONES, 2), (('came', A, D),))
        self.same(desk.say(BEGINNING.replace('live off 2', 'live on 3')), 'ok')
        self.same([desk.say('guard'), desk.say('mark a 0'), desk.say('run'), desk.say('log')], ['on', '3', '-', '-'])
        self.raises(NothingToUndo(0), desk, 'undo')

    def test_lines_that_are_no_row(self):
        desk = self.desk_at((NEAR, ONES, 2), (('came', A, D),))
        for k in range(6):
            self.raises(InvalidRow('\n'.join(LINES[:k])), desk, '\n'.join(LINES[:k]))
            changed = '\n'.join([*LINES[:k], '', *LINES[k:]])
            self.raises(InvalidRow(changed), desk, changed)
        for k in range(6):
            for changed in word_changes(LINES[k]):
                rows = [*LINES[:k], *changed.split('\n'), *LINES[k + 1:]]
                if fault_of_lines(rows) is not None or len(read_log(rows)) > 1:
                    self.raises(InvalidRow('\n'.join(rows)), desk, '\n'.join(rows))
        self.raises(InvalidRow(BEGINNING + '\nnote b'), desk, BEGINNING + '\nnote b')


class RowsTest(DeskCase):

    def test_all_that_is_said(self):
        for n, setting in enumerate(LIVED):
            guard = ('on', 'off')[n % 2]
            events = some_events(setting, guard, n + 31, 8)
            desk = self.desk_at(setting, (), guard)
            many = 1
            for k in range(len(events) + 1):
                for row, wanted in looks(setting, guard, events[:k]).items():
                    self.same(desk.say(row), wanted, row)
                    many += 1
                if k < len(events):
                    live = Live(*setting, guard=guard)
                    live.do_all(*events[:k])
                    got = live.go(events[k])
                    self.same(desk.say('bars ' + line(events[k])), '-')
                    self.same(desk.say(line(events[k])), '-' if got is None else str(got))
                    many += 2
            for k in range(len(events) - 1, -1, -1):
                self.same(desk.say('undo'), line(events[k]))
                self.same(desk.say('log'), told(setting, guard, events[:k])['str'])
                many += 2
            self.same(desk.tally(), (many, many))

    def test_each_row(self):
        desk = self.desk_at((NEAR, ONES, 3))
        self.same([desk.say(row) for row in LOOKS],
                  ['0', '-', 'off', 'no', '-', 'a@0@b@0 a@0@d@0', '-', 'a@0@b@0 a@0@d@0', '-', 'a@0@3', 'b@0 c@0 d@0', '-',
                   'a         0  3 sends / b         0  - - / c         0  - - / d         0  - -',
                   'kind a 1 not b,d / kind b 1 not c / kind c 1 not - / kind d 1 not b / asker a'])
        self.same([desk.say('note a'), desk.say('came a 0 d 0'), desk.say('guard on'), desk.say('came a 0 b 0'),
                   desk.say('came d 0 b 0')], ['-', '2', '-', '2', '-'])
        self.same([desk.say(row) for row in LOOKS],
                  ['5', 'note a / came a 0 d 0 / guard on / came a 0 b 0 / came d 0 b 0', 'on', 'no',
                   'a@0@d@0 a@0@b@0 d@0@b@0', 'b@0@c@0', '-', 'b@0@c@0', '2', 'a@0@3 b@0@2 d@0@2', 'c@0', '-',
                   'a         0  3 sends / b         0  2 sends / c         0  - - / d         0  2 sends',
                   'kind a 1 not b,d / kind b 1 not c / kind c 1 not - / kind d 1 not b / asker a'])
        self.same([desk.say('mark d 0'), desk.say('mark c 0'), desk.say('since a'), desk.say('then a')],
                  ['2', '-', 'b@0 d@0', 'a@0@b@0 a@0@d@0'])

    def test_bars(self):
        desk = self.desk_at((NEAR, ONES, 3), (('came', A, D), ('note', 'a'), ('guard', 'on')))
        for text, wanted in (('came a 0 b 0', '-'), ('came d 0 b 0', 'poor'), ('came b 0 c 0', 'way'), ('came a 1 b 0', 'from'),
                             ('came a 0 b 1', 'to'), ('guard on', 'same'), ('guard off', '-'), ('note a', 'twice'),
                             ('note b', '-'), ('came zz ' + '9' * 60 + ' a 0', 'from')):
            self.same(desk.say('bars ' + text), wanted)
        self.same(desk.say('events'), '3')

    def test_full(self):
        desk = self.desk_at((NEAR, ONES, 2), [('guard', 'off' if k % 2 else 'on') for k in range(40)])
        self.same([desk.say('bars note a'), desk.say('events')], ['full', '40'])
        self.raises(InvalidEvent(('note', 'a'), 'full'), desk, 'note a')

    def test_errors_of_the_live_web(self):
        desk = self.desk_at((NEAR, ONES, 3), (('came', A, D), ('note', 'a'), ('guard', 'on')))
        for row, error in (
                ('came d 0 b 0', InvalidEvent(('came', D, B), 'poor')), ('came b 0 c 0', InvalidEvent(('came', B, C), 'way')),
                ('came a 1 b 0', InvalidEvent(('came', ('a', 1), B), 'from')), ('guard on', InvalidEvent(('guard', 'on'), 'same')),
                ('note a', InvalidEvent(('note', 'a'), 'twice')), ('came a 0 z 0', InvalidEvent(('came', A, ('z', 0)), 'to')),
                ('mark a 1', NotUsable('store', -1)), ('mark z 0', NotUsable('store', -1)),
                ('mark a ' + '9' * 60, NotUsable('store', -1)), ('since b', NotUsable('name', -1)),
                ('then b', NotUsable('name', -1)), ('since abcdefgh', NotUsable('name', -1))):
            self.raises(error, desk, row)
        for _ in range(3):
            desk.say('undo')
        self.raises(NothingToUndo(0), desk, 'undo')
        self.raises(NotUsable('name', -1), desk, 'since a')

    def test_no_rows(self):
        desk = self.desk_at((NEAR, ONES, 2), (('came', A, D), ('note', 'a')))
        for row in NO_ROWS:
            self.raises(InvalidRow(row), desk, row)
            try:
                desk.say(row)
            except InvalidRow as error:
                self.assertIs(error.row, row)

    def test_rows_that_are_nearly_possible(self):
        events = (('came', A, D), ('note', 'a'))
        good = {*LOOKS, 'undo', 'since a', 'then a', 'since b', 'then b'}
        for row in (*LOOKS, 'undo', 'since a', 'then a', 'mark a 0', 'bars guard on', 'bars came a 0 b 0'):
            for changed in {*word_changes(row)}:
                words = changed.split(' ')
                is_row = fault_of_event(changed) is None or changed in good or (
                    words[0] in ('since', 'then', 'bars', 'mark') and self.is_asked(words))
                desk = self.desk_at((NEAR, ONES, 2), events)
                if is_row:
                    try:
                        self.assertIs(type(desk.say(changed)), str)
                    except (InvalidEvent, NotUsable):
                        pass
                else:
                    with self.assertRaises(InvalidRow) as caught:
                        desk.say(changed)
                    self.same(caught.exception.row, changed)
                    self.same(desk.say('log'), 'came a 0 d 0 / note a')

    def is_asked(self, words):
        """Whether these are the words of a row that asks with a name, a store or an event."""
        rest = ' '.join(words[1:])
        if words[0] == 'bars':
            return fault_of_event(rest) is None
        if words[0] == 'mark':
            return fault_of_event(f'came {rest} a 0') is None
        return fault_of_event(f'note {rest}') is None

    def test_two_desks_by_turns(self):
        one, other = self.desk_at((NEAR, ONES, 2)), Desk()
        self.same(one.say('came a 0 d 0'), '1')
        self.raises(InvalidRow('run'), other, 'run')
        self.same(other.say(beginning((NEAR, ONES, 3), 'on')), 'ok')
        self.same([one.say('run'), other.say('run')], ['a@0@d@0', '-'])
        self.same([one.say('guard'), other.say('guard')], ['off', 'on'])
        self.same([other.say('came a 0 b 0'), one.say('came a 0 b 0')], ['2', '1'])
        self.same([one.say('undo'), other.say('takings'), one.say('takings')],
                  ['came a 0 b 0', 'a@0@3 b@0@2', 'a@0@2 d@0@1'])


class TallyTest(DeskCase):

    def test_tally(self):
        desk = Desk()
        for k, row in enumerate(('run', BEGINNING, 'run', 'came a 0 d 0', 'came a 0 d 0', 'undo', 'undo', 'no', '', 'table',
                                 BEGINNING.replace('asker a', 'asker z'), 'tally')):
            try:
                desk.say(row)
            except LetterError:
                pass
            self.same(desk.tally(), (k + 1, k + 1))
        self.same(desk.tally(), desk.tally())


if __name__ == '__main__':
    unittest.main()
