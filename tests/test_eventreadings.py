import unittest
from random import Random

from firstletter.errors import InvalidText
from firstletter.eventreadings import read_event, read_log
from firstletter.eventtexts import event_line, log_lines
from tests.examples import A, Case, D
from tests.liveoracle import fault_of_event, fault_of_lines, line
from tests.test_eventtexts import LINES
from tests.test_replaying import FIRST

EVENT_LINES = ('came a 0 b 2', 'came abcdefgh 10 z 0', 'guard on', 'guard off', 'note early', 'note a')
# Words that are put in, and that take the place of others.
WORDS = ('', 'a', 'on', 'off', 'note', 'guard', 'came', 'live', 'kind', 'asker', 'has', 'not', '-', '0', '00', '01', '7', '-1',
         '+1', '1.0', '1_0', 'A', 'abcdefgh', 'abcdefghi', 'a\n', '\n', 'a\nb', '1\n', '1,1', '1,', ',', '1,0', '1,01', 'a,b',
         'b,a', 'a,a', 'a,', '9' * 60, '9' * 61, '1,' + '9' * 60, '9' * 61 + ',1', 'true', 'ON', 'ab cd', ' ', '2')


def word_changes(text):
    """Texts with a word left out, doubled, exchanged or put in."""
    words = text.split(' ')
    for k in range(len(words)):
        yield ' '.join(words[:k] + words[k + 1:])
        yield ' '.join(words[:k + 1] + words[k:])
        for j in range(k):
            yield ' '.join(words[:j] + [words[k]] + words[j + 1:k] + [words[j]] + words[k + 1:])
        yield ' '.join(words[:k] + [words[k] + '\n'] + words[k + 1:])
        yield ' '.join(words[:k] + ['\n' + words[k]] + words[k + 1:])
    for k in range(len(words) + 1):
        for word in WORDS:
            yield ' '.join(words[:k] + [word] + words[k:])
            yield ' '.join(words[:k] + [word] + words[k + 1:])
    yield from (text + ' ', ' ' + text, text + '  ', text.upper(), text.replace(' ', '  '), text.replace(' ', '\n'), text[:-1], '')


class ReadEventTest(Case):

    def test_examples(self):
        self.same([read_event('came a 0 b 2'), read_event('guard on')], [('came', ('a', 0), ('b', 2)), ('guard', 'on')])
        self.fails(InvalidText(0, 4), read_event, 'came a 0 b 02')
        self.same(read_event(text='note a'), ('note', 'a'))

    def test_faults(self):
        for text, field in (
                ('', 0), (' ', 0), ('came', 1), ('came a', 2), ('came a 0', 3), ('came a 0 b', 4), ('came a 0 b 2 ', 5),
                ('came a 0 b 2 c', 5), ('came  a 0 b 2', 1), ('guard', 1), ('guard ', 1), ('guard on on', 2), ('guard no', 1),
                ('note', 1), ('note ', 1), ('note A', 1), ('note abcdefghi', 1), ('note a b', 2), ('Note a', 0), ('a', 0),
                ('came A -1', 1), ('came a -1 B', 2), ('came a 0 B 02', 3), ('came a 00 b 0', 2), ('\ncame a 0 b 0', 0),
                ('came\na 0 b 0', 0), ('came a 0 b 0\n', 4), ('note a\n', 1), ('guard on\n', 1), ('came a 0\n b 0', 2)):
            self.fails(InvalidText(0, field), read_event, text)

    def test_digits(self):
        self.same(read_event('came a ' + '9' * 60 + ' b 0'), ('came', ('a', 10 ** 60 - 1), ('b', 0)))
        self.fails(InvalidText(0, 2), read_event, 'came a ' + '9' * 61 + ' b 0')
        self.fails(InvalidText(0, 4), read_event, 'came a 0 b ' + '1' + '0' * 60)

    def test_words_changed(self):
        for text in EVENT_LINES:
            for changed in word_changes(text):
                fault = fault_of_event(changed)
                if fault is None:
                    event = self.kept(read_event, changed)
                    self.same(event_line(event), changed)
                    self.same(line(event), changed)
                else:
                    self.fails(InvalidText(0, fault), read_event, changed)


class ReadLogTest(Case):

    def wrong(self, place, field, lines):
        self.fails(InvalidText(place, field), read_log, lines)

    def test_good_lines(self):
        self.same(read_log(LINES), (FIRST,))
        self.same(read_log(lines=[*LINES, 'came a 0 d 0', 'guard on']), (FIRST, ('came', A, D), ('guard', 'on')))
        self.assertIs(type(read_log(LINES)), tuple)
        self.same(read_log(['live on 0 1 1', 'asker a']), (('live', ((), 'a'), (1,), 0, 'on'),))

    def test_first_line(self):
        for text, field in (
                ('', 0), ('live', 1), ('live off', 2), ('live off 2', 3), ('live off 2 1,1,1,1', 4), ('live off 2 1,1,1,1 5 ', 5),
                ('LIVE off 2 1,1,1,1 5', 0), ('live of 2 1,1,1,1 5', 1), ('live off 02 1,1,1,1 5', 2), ('live off -2 1,1,1,1 5', 2),
                ('live off 2 1,1,0,1 5', 3), ('live off 2 1,1,01,1 5', 3), ('live off 2 1,1,,1 5', 3), ('live off 2 0 5', 3),
                ('live off 2 - 5', 3), ('live off 2 1,1,1,1 05', 4), ('live off 2 1,1,1,1 -5', 4), ('live off 2 1,1,1,1 five', 4),
                ('live  off 2 1,1,1,1 5', 1), ('live off ' + '9' * 61 + ' 1 5', 2), ('live off 2 ' + '9' * 61 + ' 5', 3),
                ('live off 2 1 ' + '9' * 61, 4), ('live off 2 1,1,1,1 5\n', 4), ('live off 2 1,1,1,1 5 kind', 5)):
            self.wrong(0, field, [text, *LINES[1:]])
            self.wrong(0, field, [text])
            self.wrong(0, field, [text, '', 'x'])

    def test_how_many_lines(self):
        self.wrong(0, 0, [])
        # Too few: as many as there are, also if that of the asker is among them.
        self.wrong(1, 0, LINES[:1])
        for k in range(2, 6):
            self.wrong(k, 0, LINES[:k])
        for many in (6, 7, 99, 10 ** 59):
            self.wrong(6, 0, [f'live off 2 1,1,1,1 {many}', *LINES[1:]])
        # Events that stand where lines of the web are awaited.
        self.wrong(6, 0, ['live off 2 1,1,1,1 6', *LINES[1:], 'came a 0 d 0'])
        # N too small: the line of the asker is not among them, whatever follows.
        for many in range(1, 5):
            self.wrong(many + 1, 0, [f'live off 2 1,1,1,1 {many}', *LINES[1:]])
            self.wrong(many + 1, 0, [f'live off 2 1,1,1,1 {many}', *LINES[1:many + 1], '', 'x'])
        self.wrong(1, 0, ['live off 2 1,1,1,1 0', *LINES[1:]])
        self.wrong(1, 0, ['live off 2 1,1,1,1 0'])
        self.wrong(1, 0, ['live off 2 1,1,1,1 0', ''])

    def test_the_asker_alone_is_missing(self):
        for rest in ((), ('came a 0 d 0',), ('asker a',), ('', 'x')):
            self.wrong(5, 0, ['live off 2 1,1,1,1 4', *LINES[1:5], *rest])

    def test_lines_behind_the_asker(self):
        self.wrong(3, 0, ['live off 2 1,1 3', LINES[1], 'asker a', LINES[2]])
        self.wrong(2, 0, ['live off 2 1,1 3', 'asker a', 'asker a', LINES[2]])
        self.wrong(2, 0, ['live off 2 1,1 3', 'asker a', ''])

    def test_empty_lines(self):
        for k in range(1, 6):
            self.wrong(k, 0, [*LINES[:k], '', *LINES[k + 1:]])
            self.wrong(k, 0, [*LINES[:k], ''])
        self.wrong(1, 0, ['live off 2 1 1', ''])
        self.wrong(6, 0, [*LINES, ''])
        self.wrong(7, 0, [*LINES, 'guard on', '', 'guard off'])

    def test_lines_of_the_web(self):
        for text, field in (('kind b 0 not c', 2), ('kind b 1 no c', 3), ('kind b 1 not c,c', 4), ('kind b 1 not', 4),
                            ('kind b 1 not c ', 5), ('kind B 1 not c', 1), ('asker', 1), ('asker B', 1), ('asker b c', 2),
                            ('asker b ', 2), ('note a', 0), ('kind b 1 not c,b', 4), ('kind b 1 not ', 4)):
            self.wrong(2, field, [*LINES[:2], text, *LINES[3:]])
            self.wrong(2, field, [*LINES[:2], text])

    def test_events(self):
        for text in EVENT_LINES:
            for changed in word_changes(text):
                fault = fault_of_event(changed)
                if fault is not None:
                    self.wrong(7, fault, [*LINES, 'guard on', changed, 'x'])

    def test_nothing_else_is_checked(self):
        for lines in (['live off 2 1 6', *[LINES[1]] * 5, 'asker zz'],
                      ['live off 9 1,2,3,4,5,6,7 2', 'kind b 1 not z', 'asker a', *['guard off'] * 60]):
            log = self.kept(read_log, lines)
            self.same(log_lines(log), lines)

    def test_lines_changed(self):
        lines = [*LINES, 'came a 0 d 0', 'guard on', 'note a']
        for k in range(len(lines)):
            self.check([*lines[:k], *lines[k + 1:]])
            self.check([*lines[:k + 1], *lines[k:]])
            self.check([*lines[:k], '', *lines[k:]])
            for j in range(k):
                self.check([*lines[:j], lines[k], *lines[j + 1:k], lines[j], *lines[k + 1:]])
            for other in (*LINES, *EVENT_LINES, 'kind e 1 not -', 'asker', 'live', ' '):
                self.check([*lines[:k], other, *lines[k:]])
                self.check([*lines[:k], other, *lines[k + 1:]])
            for changed in word_changes(lines[k]):
                if '\n' not in changed:
                    self.check([*lines[:k], changed, *lines[k + 1:]])
        for k in range(len(lines) + 1):
            self.check(lines[:k])
        for many in range(12):
            self.check([f'live on 3 1,2 {many}', *lines[1:]])

    def test_any_lines(self):
        chance = Random(4)
        rows = [*LINES, *EVENT_LINES, 'live on 1 1 2', 'live on 1 1 1', 'live off 0 2 3', '', 'asker b', 'x']
        for _ in range(3000):
            self.check([chance.choice(rows[-9:]), *[chance.choice(rows) for _ in range(chance.randrange(6))]])

    def check(self, lines):
        fault = fault_of_lines(lines)
        if fault is None:
            self.same(log_lines(self.kept(read_log, lines)), lines)
        else:
            self.wrong(*fault, lines)


if __name__ == '__main__':
    unittest.main()
