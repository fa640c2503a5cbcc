"""The interface: each name stands in its own file, with its arguments; and the package's folder."""

import importlib
import inspect
import pathlib
import unittest

import deskswaps

FUNCTIONS = {
    'deskswaps.offices': {
        'is_office': ['value'],
        'superior': ['office', 'desk'],
        'below': ['office', 'desk'],
        'depth': ['office', 'desk'],
        'path_up': ['office', 'desk'],
    },
    'deskswaps.calls': {
        'is_seating': ['office', 'value'],
        'is_order': ['office', 'seating', 'value'],
        'after_call': ['office', 'seating', 'name'],
        'run': ['office', 'seating', 'order', 'calls'],
        'record': ['office', 'seating', 'order', 'calls'],
    },
    'deskswaps.costs': {
        'day_cost': ['office', 'seating', 'order'],
        'passes': ['office', 'seating', 'order'],
        'cost_of_calls': ['office', 'seating', 'order', 'calls'],
        'final_cost': ['office', 'seating', 'order'],
    },
    'deskswaps.states': {
        'statuses': ['office', 'seating', 'order'],
        'is_recurrent': ['office', 'seating', 'order'],
        'obstruction': ['office', 'seating', 'order'],
        'is_obstruction': ['office', 'seating', 'order', 'value'],
    },
    'deskswaps.settling': {
        'settling_day': ['office', 'seating', 'order'],
        'settled': ['office', 'seating', 'order'],
        'groups_of': ['office', 'seating', 'order'],
    },
    'deskswaps.far': {
        'seating_after': ['office', 'seating', 'order', 'calls'],
        'desk_of': ['office', 'seating', 'order', 'name', 'calls'],
        'calls_at': ['office', 'seating', 'order', 'name', 'desk', 'calls'],
        'nth_call_at': ['office', 'seating', 'order', 'name', 'desk', 'number'],
    },
}


class InterfaceTest(unittest.TestCase):

    def test_functions_are_defined_where_they_are_listed(self):
        for module_name, functions in FUNCTIONS.items():
            module = importlib.import_module(module_name)
            for name, arguments in functions.items():
                with self.subTest((module_name, name)):
                    function = getattr(module, name)
                    self.assertTrue(inspect.isfunction(function))
                    self.assertEqual(function.__module__, module_name)
                    self.assertEqual(function.__name__, name)
                    self.assertEqual(list(inspect.signature(function).parameters), arguments)

    def test_the_folder_holds_python_files_only(self):
        folder = pathlib.Path(deskswaps.__file__).parent
        for path in folder.iterdir():
            if path.name != '__pycache__':
                self.assertEqual(path.suffix, '.py')

    def test_sizes_and_characters_of_the_files(self):
        folder = pathlib.Path(deskswaps.__file__).parent
        for path in folder.glob('*.py'):
            with self.subTest(path.name):
                text = path.read_bytes().decode('ascii')
                lines = text.split('\n')
                self.assertLess(len(lines), 400)
                self.assertLessEqual(max(len(line) for line in lines), 120)
                self.assertTrue(all(character == '\n' or ' ' <= character <= '~' for character in text))


if __name__ == '__main__':
    unittest.main()
