"""The interface: each name stands in its own file, with its arguments; and the package's folder."""

import importlib
import inspect
import pathlib
import unittest

import deskswaps
from deskswaps.live import LiveOffice

FUNCTIONS = {
    'deskswaps.offices': {
        'is_office': ['value'],
        'superior': ['office', 'desk'],
        'below': ['office', 'desk'],
        'depth': ['office', 'desk'],
        'path_up': ['office', 'desk'],
    },
    'deskswaps.calls': {
        'is_seating': ['office', 'value'],
        'is_order': ['office', 'seating', 'value'],
        'after_call': ['office', 'seating', 'name'],
        'run': ['office', 'seating', 'order', 'calls'],
        'record': ['office', 'seating', 'order', 'calls'],
    },
    'deskswaps.costs': {
        'day_cost': ['office', 'seating', 'order'],
        'passes': ['office', 'seating', 'order'],
        'cost_of_calls': ['office', 'seating', 'order', 'calls'],
        'final_cost': ['office', 'seating', 'order'],
    },
    'deskswaps.states': {
        'statuses': ['office', 'seating', 'order'],
        'is_recurrent': ['office', 'seating', 'order'],
        'obstruction': ['office', 'seating', 'order'],
        'is_obstruction': ['office', 'seating', 'order', 'value'],
    },
    'deskswaps.settling': {
        'settling_day': ['office', 'seating', 'order'],
        'settled': ['office', 'seating', 'order'],
        'groups_of': ['office', 'seating', 'order'],
    },
    'deskswaps.far': {
        'seating_after': ['office', 'seating', 'order', 'calls'],
        'desk_of': ['office', 'seating', 'order', 'name', 'calls'],
        'calls_at': ['office', 'seating', 'order', 'name', 'desk', 'calls'],
        'nth_call_at': ['office', 'seating', 'order', 'name', 'desk', 'number'],
    },
    'deskswaps.groups': {
        'groups': ['office'],
        'is_alone': ['office'],
        'levels': ['office'],
        'period': ['office'],
        'recurrent_count': ['office'],
    },
    'deskswaps.cycles': {
        'cycle_length': ['office', 'seating', 'order'],
        'cycle_of': ['office', 'seating', 'order'],
        'passes_in_cycle': ['office', 'seating', 'order', 'one', 'other'],
        'meet': ['office', 'seating', 'other', 'order'],
    },
    'deskswaps.counting': {
        'count_recurrent': ['office', 'silent'],
        'count_by_passes': ['office'],
        'nth_recurrent': ['office', 'order', 'number'],
        'recurrent_index': ['office', 'order', 'seating'],
    },
    'deskswaps.backwards': {
        'before_call': ['office', 'seating', 'name'],
        'count_before': ['office', 'seating', 'order', 'calls'],
        'days_back': ['office', 'seating', 'order'],
    },
    'deskswaps.reading': {
        'seating_from_desks': ['office', 'order', 'desks'],
        'count_with_costs': ['office', 'names', 'order', 'costs'],
    },
    'deskswaps.texts': {
        'show_office': ['office', 'seating'],
        'read_office': ['text'],
    },
}

CLASSES = {
    'deskswaps.live': {
        'LiveOffice': {
            '__init__': ['self', 'office', 'seating', 'order'],
            'call': ['self', 'name'],
            'days': ['self', 'days'],
            'reorder': ['self', 'order'],
            'add': ['self', 'desk', 'name'],
            'remove': ['self'],
            'undo': ['self'],
            'office': ['self'],
            'seating': ['self'],
            'order': ['self'],
            'log': ['self'],
            '__len__': ['self'],
            '__eq__': ['self', 'other'],
        },
    },
    'deskswaps.console': {
        'Console': {
            '__init__': ['self'],
            'say': ['self', 'row'],
        },
    },
}


class InterfaceTest(unittest.TestCase):

    def test_functions_are_defined_where_they_are_listed(self):
        for module_name, functions in FUNCTIONS.items():
            module = importlib.import_module(module_name)
            for name, arguments in functions.items():
                with self.subTest((module_name, name)):
                    function = getattr(module, name)
                    self.assertTrue(inspect.isfunction(function))
                    self.assertEqual(function.__module__, module_name)
                    self.assertEqual(function.__name__, name)
                    self.assertEqual(list(inspect.signature(function).parameters), arguments)

    def test_classes_and_their_methods_are_defined_where_they_are_listed(self):
        for module_name, classes in CLASSES.items():
            module = importlib.import_module(module_name)
            for name, methods in classes.items():
                own = getattr(module, name)
                self.assertTrue(inspect.isclass(own))
                self.assertEqual((own.__module__, own.__name__), (module_name, name))
                for method, arguments in methods.items():
                    with self.subTest((name, method)):
                        self.assertIn(method, vars(own))
                        self.assertEqual(list(inspect.signature(vars(own)[method]).parameters), arguments)

    def test_the_order_of_a_live_office_is_passed_by_keyword(self):
        order = inspect.signature(LiveOffice).parameters['order']
        self.assertEqual((order.kind, order.default), (order.KEYWORD_ONLY, ()))

    def test_the_folder_holds_python_files_only(self):
        folder = pathlib.Path(deskswaps.__file__).parent
        for path in folder.iterdir():
            if path.name != '__pycache__':
                self.assertEqual(path.suffix, '.py')

    def test_sizes_and_characters_of_the_files(self):
        folder = pathlib.Path(deskswaps.__file__).parent
        for path in folder.glob('*.py'):
            with self.subTest(path.name):
                text = path.read_bytes().decode('ascii')
                lines = text.split('\n')
                self.assertLess(len(lines), 400)
                self.assertLessEqual(max(len(line) for line in lines), 120)
                self.assertTrue(all(character == '\n' or ' ' <= character <= '~' for character in text))


if __name__ == '__main__':
    unittest.main()
