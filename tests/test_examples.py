"""Points 1 and 9: all examples of the document answer as they are written."""

import doctest
import importlib
import pathlib
import re
import unittest

from tests.test_interface import CLASSES, FUNCTIONS

FOLDER = pathlib.Path(__file__).parent


def failures_in(text, name):
    """What doctest prints about the examples that answer otherwise, and the number of examples."""
    test = doctest.DocTestParser().get_doctest(text, {}, name, name, 0)
    printed = []
    doctest.DocTestRunner(optionflags=doctest.IGNORE_EXCEPTION_DETAIL, verbose=False).run(test, out=printed.append)
    return ''.join(printed), len(test.examples)


class ExamplesTest(unittest.TestCase):

    def test_examples_of_the_document(self):
        sections = re.split(r'\n\n(?=\S[^\n]*\n\n>>>)', (FOLDER / 'examples.txt').read_text())
        self.assertEqual(len(sections), 57)
        for section in sections[1:]:
            title = section.partition('\n')[0]
            with self.subTest(title):
                printed, many = failures_in(section, title)
                self.assertEqual(printed, '')
                self.assertGreater(many, 0)

    def test_examples_of_the_readme(self):
        for block in re.findall(r'```\n(>>>.*?)```', (FOLDER.parent / 'README.md').read_text(), re.DOTALL):
            self.assertEqual(failures_in(block, 'README.md')[0], '')

    def test_each_function_has_an_example(self):
        text = (FOLDER / 'examples.txt').read_text()
        for module_name, names in [*FUNCTIONS.items(), *CLASSES.items()]:
            importlib.import_module(module_name)
            for name in names:
                self.assertIn(f'from {module_name} import {name}\n', text)


if __name__ == '__main__':
    unittest.main()
