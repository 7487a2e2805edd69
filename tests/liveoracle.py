"""Live webs word by word as points [63] to [75] have them: all is told anew from the events so far."""

import re
from functools import cache
from random import Random

from tests.examples import ALIKE, ALONE, MIXED, NEAR, ONES, RING
from tests.oracle import CHAIN, HAVING, after, all_stores, row_of, sends
from tests.planoracle import FREE, names, some_webs

# The asker sends to its own kind, too.
LOOPED = ((('a', 1, False, ('a', 'b', 'd')), ('b', 1, False, ('c',)), ('c', 1, False, ()), ('d', 1, False, ('b',))), 'a')
# Webs, numbers and marks with some letters, but not too many.
LIVED = (
    *[(NEAR, ONES, marks) for marks in range(5)], (NEAR, (2, 2, 1, 1), 2), (NEAR, (1, 2, 2, 2), 3), (NEAR, (1, 1, 1, 3), 2),
    *[(RING, (1, 1, 1, 2), marks) for marks in range(1, 5)], (RING, (2, 1, 1, 2), 3),
    *[(ALIKE, (number,), marks) for number in (1, 2, 3, 4) for marks in range(4)],
    *[(MIXED, (1, 2, 1), marks) for marks in range(1, 7)], (ALONE, (2,), 3),
    *[(HAVING, (2, 2), marks) for marks in range(3)], *[(CHAIN, (2, 1, 1), marks) for marks in range(1, 6)],
    *[(FREE, (1, 2, 1), marks) for marks in range(1, 6)],
    *[(LOOPED, numbers, marks) for numbers in (ONES, (2, 1, 1, 1), (3, 1, 1, 1)) for marks in (2, 3, 4)],
    *[(web, (1,) * len(web[0]), marks) for web in some_webs(30)[20:] for marks in (1, 2, 3)],
    *[(web, (2,) * len(web[0]), marks) for web in some_webs(20) for marks in (1, 2, 3)],
)


@cache
def best_marks(web, marks):
    """The greatest mark of a letter to each kind, if each store that it comes to takes the ask with it; or -1."""
    letters, queue = set(), [(web[1], marks)]
    while queue:
        kind, mark = queue.pop()
        _, fee, has, table = row_of(web, kind)
        for other in table:
            if not has and mark >= fee and (other, mark - fee) not in letters:
                letters.add((other, mark - fee))
                queue.append((other, mark - fee))
    return {name: max([mark for kind, mark in letters if kind == name], default=-1) for name in names(web)}


def letters_in(events):
    return tuple((event[1], event[2]) for event in events if event[0] == 'came')


def guard_in(guard, events):
    """The guard behind events, if it was this one ahead of them."""
    for event in events:
        guard = event[1] if event[0] == 'guard' else guard
    return guard


def notes_in(events):
    """The index of the event of each note."""
    return {event[1]: k for k, event in enumerate(events) if event[0] == 'note'}


def poor_letters(web, numbers, marks, made):
    taken, _, waiting = after(web, numbers, marks, made)
    best = best_marks(web, marks)
    return tuple((store, other) for store, other in waiting
                 if other not in taken and taken[store] - row_of(web, store[0])[1] < best[other[0]])


def is_store(thing):
    return (type(thing) is tuple and len(thing) == 2 and type(thing[0]) is str and bool(re.fullmatch('[a-z]{1,8}', thing[0]))
            and type(thing[1]) is int and thing[1] >= 0)


def is_event(thing):
    if type(thing) is not tuple or not thing or type(thing[0]) is not str:
        return False
    if thing[0] == 'came':
        return len(thing) == 3 and is_store(thing[1]) and is_store(thing[2])
    if len(thing) != 2 or type(thing[1]) is not str:
        return False
    if thing[0] == 'guard':
        return thing[1] in ('on', 'off')
    return thing[0] == 'note' and bool(re.fullmatch('[a-z]{1,8}', thing[1]))


def reason(setting, guard, events, event):
    """Why any value is not possible as an event behind these; None if it is."""
    web, numbers, marks = setting
    if not is_event(event):
        return 'shape'
    if len(events) >= 40:
        return 'full'
    if event[0] == 'guard':
        return 'same' if event[1] == guard_in(guard, events) else None
    if event[0] == 'note':
        return 'twice' if event[1] in notes_in(events) else None
    stores, made = all_stores(web, numbers), letters_in(events)
    if event[1] not in stores:
        return 'from'
    if event[2] not in stores:
        return 'to'
    if event[1:] not in after(web, numbers, marks, made)[2]:
        return 'way'
    if guard_in(guard, events) == 'on' and event[1:] in poor_letters(web, numbers, marks, made):
        return 'poor'
    return None


def answer(setting, events, event):
    """What a possible event answers behind these."""
    if event[0] != 'came':
        return None
    before = after(*setting, letters_in(events))[0]
    return None if event[2] in before else after(*setting, letters_in([*events, event]))[0][event[2]]


@cache
def ends_behind(web, numbers, takings):
    """The stores that took the ask, for each way on from these takings until no letter is on its way."""
    stores = all_stores(web, numbers)
    found, queue, over = {takings}, [takings], set()
    while queue:
        taken = dict(queue.pop())
        moves = [(store, other) for store in taken for other in stores
                 if other not in taken and sends(web, store, taken[store], other)]
        if not moves:
            over.add(tuple(sorted(taken)))
        for store, other in moves:
            more = tuple(sorted({**taken, other: taken[store] - row_of(web, store[0])[1]}.items()))
            if more not in found:
                found.add(more)
                queue.append(more)
    return over


def missable(web, numbers, marks, made):
    takings = tuple(sorted(after(web, numbers, marks, made)[0].items()))
    return tuple(kind for kind in names(web) if any(
        any(store not in taken for store in all_stores(web, numbers) if store[0] == kind)
        for taken in ends_behind(web, numbers, takings)))


def told(setting, guard, events):
    """All that a live web tells of itself behind these events."""
    web, numbers, marks = setting
    made = letters_in(events)
    taken, parents, waiting = after(web, numbers, marks, made)
    stores = all_stores(web, numbers)
    poor = poor_letters(web, numbers, marks, made)
    now = guard_in(guard, events)
    return {
        'guard_now': now, 'run_now': made, 'takings_now': tuple(sorted(taken.items())), 'waiting_now': tuple(waiting),
        'missed_now': tuple(store for store in stores if store not in taken),
        'found_now': any(row_of(web, store[0])[2] for store in taken), 'poor_now': poor,
        'next_now': tuple(letter for letter in waiting if now == 'off' or letter not in poor),
        'falls': tuple(k for k, letter in enumerate(made) if parents.get(letter[1]) != letter[0]),
        'missable': missable(web, numbers, marks, made), 'table': table(web, numbers, taken),
        'marks': [taken.get(store) for store in stores], 'stores': stores, 'len': len(events),
        'log': (('live', web, numbers, marks, guard), *events), 'str': ' / '.join(line(event) for event in events) or '-',
        'since': [(name, tuple(store for store in sorted(taken) if store not in after(
            web, numbers, marks, letters_in(events[:k]))[0])) for name, k in sorted(notes_in(events).items())],
        'then': [(name, tuple(after(web, numbers, marks, letters_in(events[:k]))[2]))
                 for name, k in sorted(notes_in(events).items())],
    }


def table(web, numbers, taken):
    rows = []
    for store in all_stores(web, numbers):
        _, fee, has, _ = row_of(web, store[0])
        word = '-' if store not in taken else 'has' if has else 'sends' if taken[store] >= fee else 'stops'
        rows.append(store[0].ljust(8) + ' ' + str(store[1]).rjust(2) + ' ' + str(taken.get(store, '-')).rjust(2) + ' ' + word)
    return rows


def line(event):
    """The line of an event."""
    words = [event[0], *event[1], *event[2]] if event[0] == 'came' else event
    return ' '.join(str(word) for word in words)


def told_by(live):
    """All that a live web tells of itself."""
    names_of_notes = sorted(notes_in(live.log()[1:]))
    found = {name: getattr(live, name) for name in ('guard_now', 'run_now', 'takings_now', 'waiting_now', 'missed_now',
                                                    'found_now', 'poor_now', 'next_now', 'falls')}
    return {
        **found, 'missable': live.missable(), 'table': live.table(), 'marks': [live[store] for store in live],
        'stores': list(live), 'len': len(live), 'log': live.log(), 'str': str(live),
        'since': [(name, live.taken_since(name)) for name in names_of_notes],
        'then': [(name, live.waiting_then(name)) for name in names_of_notes],
    }


def some_events(setting, guard, seed, many):
    """Possible events, the same ones each time: mostly letters, some guards and notes."""
    chance, events = Random(seed), []
    words = ['early', 'a', 'late', 'again', 'abcdefgh', 'z']
    while len(events) < many:
        waiting = after(*setting, letters_in(events))[2]
        choices = [('came', *letter) for letter in waiting] * 2 + [('guard', 'on'), ('guard', 'off'), ('note', words[0])]
        possible = [event for event in choices if reason(setting, guard, events, event) is None]
        if not possible or (not waiting and chance.random() < 0.3):
            break
        event = chance.choice(possible)
        words = words[1:] or ['more'] if event[0] == 'note' else words
        events.append(event)
    return tuple(events)


def fault_of_event(text):
    """The field of the first word of a line that cannot stand, or the number of its words if one is missing; or None."""
    words = text.split(' ')
    name, number = '[a-z]{1,8}', '0|[1-9][0-9]{0,59}'
    forms = {'came': (name, number, name, number), 'guard': ('on|off',), 'note': (name,)}
    if words[0] not in forms:
        return 0
    return fault_of_words(words[1:], forms[words[0]], 1)


def fault_of_words(words, forms, at):
    for k, word in enumerate(words):
        if k >= len(forms) or not re.fullmatch(f'(?:{forms[k]})', word) or '\n' in word:
            return at + k
    return at + len(words) if len(words) < len(forms) else None


def fault_of_first(text):
    words = text.split(' ')
    number, figures = '0|[1-9][0-9]{0,59}', '[1-9][0-9]{0,59}'
    return fault_of_words(words, ('live', 'on|off', number, f'{figures}(?:,{figures})*', number), 0)


def fault_of_web_line(text):
    """The same for a line of a web."""
    words = text.split(' ')
    if words[0] == 'asker':
        return fault_of_words(words[1:], ('[a-z]{1,8}',), 1)
    table = '-|[a-z]{1,8}(?:,[a-z]{1,8})*'
    fault = fault_of_words(words, ('kind', '[a-z]{1,8}', '[1-9][0-9]{0,59}', 'has|not', table), 0)
    if len(words) >= 5 and fault in (None, 5):
        entries = words[4].split(',')
        if entries != sorted(set(entries)):
            return 4
    return fault


def fault_of_lines(lines):
    """The line and the field of the first fault of the lines of a log; or None."""
    if not lines:
        return 0, 0
    if fault_of_first(lines[0]) is not None:
        return 0, fault_of_first(lines[0])
    many = int(lines[0].split(' ')[4])
    rows = lines[1:1 + many]
    asked = False
    for k, row in enumerate(rows, 1):
        if asked:
            return k, 0
        if fault_of_web_line(row) is not None:
            return k, fault_of_web_line(row)
        asked = row.startswith('asker ')
    if not asked or len(rows) < many:
        return 1 + len(rows), 0
    for k, row in enumerate(lines[1 + many:], 1 + many):
        if fault_of_event(row) is not None:
            return k, fault_of_event(row)
    return None
