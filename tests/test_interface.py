import importlib
import inspect
import unittest

# The names that the interface lists for each module, with their parameters as they are written in a def.
FUNCTIONS = {
    'kinds': {f'is_{short}': '(thing)' for short in
              ('integer', 'number', 'name', 'table', 'kind', 'web', 'store', 'letter', 'event')},
    'webchecker': {'lets_web': '(thing)'},
    'webparts': {'names_of': '(web)', 'fee_of': '(web, kind)', 'has_of': '(web, kind)', 'table_of': '(web, kind)',
                 'senders_to': '(web, kind)', 'are_numbers': '(web, thing)', 'stores_of': '(web, numbers)'},
    'webchanges': {'with_kind': '(web, kind)', 'without_kind': '(web, kind)', 'with_arrow': '(web, kind, other)',
                   'without_arrow': '(web, kind, other)', 'with_fee': '(web, kind, fee)', 'with_has': '(web, kind, has)',
                   'asked_by': '(web, kind)', 'renamed': '(web, kind, name)'},
    'webtexts': {'table_text': '(table)', 'kind_text': '(kind)', 'web_text': '(web)', 'numbers_text': '(numbers)'},
    'webreadings': {'kind_read': '(text, *, line=0, field=0)', 'numbers_read': '(text, *, line=0, field=0)',
                    'web_read': '(text)'},
    'runs': {'is_run': '(web, numbers, marks, thing)', 'lets_run': '(web, numbers, marks, thing)',
             **{name: '(web, numbers, marks, made)' for name in
                ('waiting_after', 'takings_after', 'missed_after', 'is_over', 'has_found')}},
    'trees': {'tree_of': '(web, numbers, marks, made)', 'lets_tree': '(web, numbers, marks, thing)',
              'run_of_tree': '(web, numbers, marks, tree)'},
    'stories': {'story_of': '(web, numbers, marks, made)'},
    'pictures': {'picture': '(web, numbers, marks, made)'},
    'plans': {'pairs_of': '(web, marks)', 'is_plan': '(web, marks, thing)', 'closed_plans': '(web, marks)',
              **{name: '(web, marks, plan)' for name in
                 ('kinds_of', 'near_kinds', 'quiet_kinds', 'uses_of', 'is_closed')},
              'fits': '(web, numbers, marks, plan)'},
    'planchecker': {'lets_plan': '(web, marks, thing)'},
    'planruns': {'plan_of': '(web, numbers, marks, made)', 'tree_of_plan': '(web, numbers, marks, plan)'},
    'reach': {'best_marks': '(web, marks)', 'near_of': '(web, marks)'},
    'misses': {'missed_kinds': '(web, numbers, marks)', 'least_numbers': '(web, marks, kind)',
               **{name: '(web, numbers, marks, kind)' for name in ('can_miss', 'missing_run', 'first_marks')}},
    'misspapers': {'miss_paper': '(web, numbers, marks, kind)'},
    'misschecker': {'lets_miss': '(web, numbers, marks, kind, thing)'},
    'letters': {'most_letters': '(web, marks)', 'least_counts': '(web, marks)', 'least_letters': '(web, numbers, marks)',
                'letters_of': '(web, numbers, marks, made)'},
    'finding': {'is_surely_found': '(web, numbers, marks)', 'failing_run': '(web, numbers, marks)'},
    'sure': {'sure_marks': '(web, numbers, most)'},
    'likeness': {'are_alike': '(web, other, marks)', 'parting_kind': '(web, other, marks)'},
    'replaying': {'is_log': '(thing)', 'replayed': '(log)'},
    'eventtexts': {'event_line': '(event)', 'log_lines': '(log)'},
    'eventreadings': {'read_event': '(text)', 'read_log': '(lines)'},
}
CLASSES = {
    'webclasses': {
        'Web': ('(kinds, asker)', {
            'sending': '(kind, other)', 'sparing': '(kind, other)', 'costing': '(kind, fee)', 'holding': '(kind, has)',
            'asking': '(kind)', 'calling': '(kind, name)', 'parsed': '(text)', 'plain': '(*fees)'}),
        'Dearer': ('(web, *, by=1)', {}),
        'Emptied': ('(web, *names)', {}),
    },
    'runclasses': {
        'Run': ('(web, numbers, marks, letters=())', {'read': '(web, numbers, marks, text)'}),
    },
    'walkers': {
        'Walker': ('(web, numbers, marks)', {
            'go': '(letter)', 'finish': '()', 'undo': '()', 'set_made': '(made)', 'trial': '()', 'tried': '(*letters)'}),
    },
    'planclasses': {
        'Plan': ('(web, marks, pairs)', {
            'fits': '(numbers)', 'grown': '()', 'first': '(web, marks)', 'widest': '(web, marks, *, without=())',
            'parsed': '(web, marks, text)'}),
    },
    'lives': {
        'Live': ("(web, numbers, marks, *, guard='off')", {
            'missable': '()', 'came': '(sender, store)', 'set_guard': '(word)', 'note': '(name)', 'go': '(event)',
            'tried': '(*events)', 'undo': '()', 'do_all': '(*events, keep=False)', 'tally': '()', 'barred': '(event)',
            'table': '()', 'taken_since': '(name)', 'waiting_then': '(name)', 'log': '()'}),
    },
    'desk': {
        'Desk': ('()', {'say': '(row)', 'tally': '()'}),
    },
    'counts': {
        'Count': ('(terms=())', {'worth': '(*pairs)', 'parsed': '(text)', 'unknown': '(name)'}),
    },
}
OPERATORS = {
    'Web': ('getitem', 'contains', 'len', 'iter', 'call', 'eq', 'str', 'add', 'sub'),
    'Run': ('getitem', 'contains', 'len', 'iter', 'eq', 'le', 'ge', 'str', 'add'),
    'Walker': ('iadd',),
    'Plan': ('getitem', 'contains', 'len', 'eq', 'le', 'ge', 'str', 'add', 'or'),
    'Count': ('len', 'add', 'mul', 'eq', 'str'),
    'Live': ('call', 'getitem', 'contains', 'iter', 'len', 'eq', 'str'),
}
PROPERTIES = {
    'Web': ('kinds', 'asker', 'form'),
    'Dearer': ('source',),
    'Emptied': ('source',),
    'Run': ('made', 'waiting_now', 'takings_now', 'missed_now', 'tree_now', 'over_now'),
    'Walker': ('path', 'waiting_now', 'takings_now', 'missed_now', 'tree_now', 'over_now'),
    'Plan': ('web', 'marks', 'pairs', 'kinds', 'near', 'quiet', 'uses', 'is_closed'),
    'Count': ('terms', 'names'),
    'Live': ('guard_now', 'run_now', 'takings_now', 'waiting_now', 'missed_now', 'found_now', 'poor_now', 'next_now', 'falls'),
    'Desk': (),
}


def all_classes():
    """The name of each class, the class, its parameters, and its methods with theirs."""
    for module, rows in CLASSES.items():
        for name, (parameters, methods) in rows.items():
            yield name, getattr(importlib.import_module(f'firstletter.{module}'), name), module, parameters, methods


class InterfaceTest(unittest.TestCase):

    def test_functions_stand_in_their_files(self):
        for module, functions in FUNCTIONS.items():
            for name, parameters in functions.items():
                function = getattr(importlib.import_module(f'firstletter.{module}'), name)
                self.assertEqual(function.__module__, f'firstletter.{module}', name)
                self.assertEqual(str(inspect.signature(function)), parameters, name)

    def test_classes_stand_in_their_files(self):
        for name, made, module, parameters, methods in all_classes():
            self.assertEqual(made.__module__, f'firstletter.{module}')
            self.assertEqual(str(inspect.signature(made)), parameters, name)
            for method, taken in methods.items():
                self.assertIn(method, vars(made))
                shown = str(inspect.signature(getattr(made, method)))
                self.assertEqual(shown.replace('(self, ', '(').replace('(self)', '()'), taken, method)

    def test_operators_and_properties_stand_in_the_class_itself(self):
        for name, made, _, _, _ in all_classes():
            for word in OPERATORS.get(name, ()):
                self.assertIn(f'__{word}__', vars(made))
            for word in PROPERTIES[name]:
                self.assertIsInstance(vars(made)[word], property)


if __name__ == '__main__':
    unittest.main()
