"""Point 14 and section 18: the errors."""

import inspect
import unittest

from deskswaps import errors
from deskswaps.errors import Impossible, OfficeError, TooMany

WITH_MESSAGE = [
    'NoOffice', 'NoDesk', 'NoSeating', 'NoOrder', 'NoName', 'NoCalls', 'NotAlike', 'NoNumber',
    'NotRecurrent', 'NoDesks', 'NoCosts', 'Full', 'Nothing', 'NoText', 'NoRow',
]


class ErrorsTest(unittest.TestCase):

    def test_office_error_is_a_value_error(self):
        self.assertEqual(OfficeError.__bases__, (ValueError,))

    def test_there_are_exactly_the_listed_errors(self):
        found = [name for name, value in vars(errors).items() if inspect.isclass(value)]
        self.assertEqual(sorted(found), sorted(WITH_MESSAGE + ['OfficeError', 'TooMany', 'Impossible']))
        self.assertEqual(len(found), 18)

    def test_each_is_a_direct_subclass_defined_here(self):
        for name in WITH_MESSAGE + ['TooMany', 'Impossible']:
            with self.subTest(name):
                self.assertEqual(getattr(errors, name).__bases__, (OfficeError,))
                self.assertEqual(getattr(errors, name).__name__, name)
                self.assertEqual(getattr(errors, name).__module__, 'deskswaps.errors')

    def test_errors_with_a_message(self):
        for name in WITH_MESSAGE + ['OfficeError']:
            with self.subTest(name):
                error = getattr(errors, name)('what is wrong')
                self.assertIsInstance(error, OfficeError)
                self.assertIsInstance(error, ValueError)
                self.assertEqual(str(error), 'what is wrong')
                self.assertFalse(hasattr(error, 'size'))
                self.assertFalse(hasattr(error, 'index'))

    def test_errors_with_a_number(self):
        for error_class, attribute in ((TooMany, 'size'), (Impossible, 'index')):
            for number in (0, 1, 41, -3, 10 ** 36):
                with self.subTest((error_class, number)):
                    error = error_class(number)
                    self.assertIsInstance(error, OfficeError)
                    self.assertIsInstance(error, ValueError)
                    self.assertEqual(vars(error), {attribute: number})
                    self.assertIs(type(getattr(error, attribute)), int)
                    self.assertIsInstance(str(error), str)

    def test_two_errors_keep_their_own_numbers(self):
        one, other = TooMany(41), TooMany(7)
        self.assertEqual((one.size, other.size), (41, 7))
        one, other = Impossible(0), Impossible(3)
        self.assertEqual((one.index, other.index), (0, 3))

    def test_each_is_caught_as_the_common_error(self):
        for name in WITH_MESSAGE:
            with self.subTest(name), self.assertRaises(OfficeError):
                raise getattr(errors, name)('what is wrong')
        for error_class in (TooMany, Impossible):
            with self.subTest(error_class), self.assertRaises(ValueError):
                raise error_class(5)


if __name__ == '__main__':
    unittest.main()
