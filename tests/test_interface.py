import importlib
import inspect
import unittest

# The names that the interface lists for each module, with their parameters as they are written in a def.
FUNCTIONS = {
    'kinds': {f'is_{short}': '(thing)' for short in
              ('integer', 'number', 'name', 'table', 'kind', 'web', 'store', 'letter', 'event')},
    'webchecker': {'lets_web': '(thing)'},
    'webparts': {'names_of': '(web)', 'fee_of': '(web, kind)', 'has_of': '(web, kind)', 'table_of': '(web, kind)',
                 'senders_to': '(web, kind)', 'are_numbers': '(web, thing)', 'stores_of': '(web, numbers)'},
    'webchanges': {'with_kind': '(web, kind)', 'without_kind': '(web, kind)', 'with_arrow': '(web, kind, other)',
                   'without_arrow': '(web, kind, other)', 'with_fee': '(web, kind, fee)', 'with_has': '(web, kind, has)',
                   'asked_by': '(web, kind)', 'renamed': '(web, kind, name)'},
    'webtexts': {'table_text': '(table)', 'kind_text': '(kind)', 'web_text': '(web)', 'numbers_text': '(numbers)'},
    'webreadings': {'kind_read': '(text, *, line=0, field=0)', 'numbers_read': '(text, *, line=0, field=0)',
                    'web_read': '(text)'},
    'runs': {'is_run': '(web, numbers, marks, thing)', 'lets_run': '(web, numbers, marks, thing)',
             **{name: '(web, numbers, marks, made)' for name in
                ('waiting_after', 'takings_after', 'missed_after', 'is_over', 'has_found')}},
    'trees': {'tree_of': '(web, numbers, marks, made)', 'lets_tree': '(web, numbers, marks, thing)',
              'run_of_tree': '(web, numbers, marks, tree)'},
}
CLASSES = {
    'Web': ('(kinds, asker)', {
        'sending': '(self, kind, other)', 'sparing': '(self, kind, other)', 'costing': '(self, kind, fee)',
        'holding': '(self, kind, has)', 'asking': '(self, kind)', 'calling': '(self, kind, name)'}),
    'Dearer': ('(web, *, by=1)', {}),
    'Emptied': ('(web, *names)', {}),
}
OPERATORS = ('getitem', 'contains', 'len', 'iter', 'call', 'eq', 'str', 'add', 'sub')


class InterfaceTest(unittest.TestCase):

    def test_functions_stand_in_their_files(self):
        for module, functions in FUNCTIONS.items():
            for name, parameters in functions.items():
                function = getattr(importlib.import_module(f'firstletter.{module}'), name)
                self.assertEqual(function.__module__, f'firstletter.{module}', name)
                self.assertEqual(str(inspect.signature(function)), parameters, name)

    def test_classes_stand_in_their_file(self):
        webclasses = importlib.import_module('firstletter.webclasses')
        for name, (parameters, methods) in CLASSES.items():
            made = getattr(webclasses, name)
            self.assertEqual(made.__module__, 'firstletter.webclasses')
            self.assertEqual(str(inspect.signature(made)), parameters)
            for method, taken in methods.items():
                self.assertEqual(str(inspect.signature(vars(made)[method])), taken, method)

    def test_operators_stand_in_the_class_itself(self):
        web = importlib.import_module('firstletter.webclasses').Web
        for word in OPERATORS:
            self.assertIn(f'__{word}__', vars(web))
        self.assertEqual(str(inspect.signature(web.parsed)), '(text)')
        self.assertEqual(str(inspect.signature(web.plain)), '(*fees)')


if __name__ == '__main__':
    unittest.main()
