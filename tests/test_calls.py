"""Points 3, 4, 6, 7 and 9, and section 5: seatings, orders and calls."""

import itertools
import unittest

from deskswaps.calls import after_call, is_order, is_seating, record, run
from deskswaps.errors import NoCalls, NoName, NoOffice, NoOrder, NoSeating
from tests.support import (BAD_CALLS, BAD_NAMES, BAD_OFFICES, BAD_ORDERS, BAD_SEATINGS, OFFICE, ORDER, START,
                           EqualToAll, NotShown, chain, check_error, check_errors, check_new_list, check_unchanged,
                           grown, names_for, odd_items, odd_values, offices_with, orders_for, sample_offices,
                           simulate, star)


class IsSeatingTest(unittest.TestCase):

    def check(self, office, value, expected):
        self.assertIs(is_seating(office, value), expected)

    def test_examples(self):
        self.check(OFFICE, ('a', 'b', 'c', 'a'), False)
        self.check(OFFICE, START, True)

    def test_seatings_of_every_size(self):
        for office in sample_offices():
            many = len(office) + 1
            for other in range(42):
                self.check(office, names_for(other), other == many)

    def test_a_name_replaced(self):
        for many in (1, 2, 4, 40):
            seating = names_for(many)
            for index in range(many):
                head, tail = seating[:index], seating[index + 1:]
                self.check(chain(many), head + ('zzzzzzzz',) + tail, True)
                for name in BAD_NAMES:
                    self.check(chain(many), head + (name,) + tail, False)

    def test_a_name_repeated(self):
        for many in (2, 4, 40):
            seating = names_for(many)
            for one, other in itertools.permutations(range(many), 2):
                repeated = list(seating)
                repeated[one] = seating[other]
                self.check(star(many), tuple(repeated), False)

    def test_a_name_added_or_removed(self):
        for many in (1, 2, 4, 40):
            for office in offices_with(many):
                seating = names_for(many)
                for index in range(many):
                    self.check(office, seating[:index] + seating[index + 1:], False)
                    self.check(office, seating[:index] + ('zzzzzzzz',) + seating[index:], False)
                self.check(office, seating + ('zzzzzzzz',), False)
                self.check(office, seating + seating, False)

    def test_lengths_and_letters_of_names(self):
        for letter in 'abcdefghijklmnopqrstuvwxyz':
            for length in range(12):
                self.check((), (letter * length,), 1 <= length <= 8)
        for code in range(300):
            for name in (chr(code), 'a' + chr(code), chr(code) + 'a', 'a' + chr(code) + 'b'):
                self.check((), (name,), 97 <= code <= 122)
        for name in BAD_NAMES + ['a' * 5000]:
            self.check((), (name,), False)
        self.check((0,), ('abcdefgh', 'abcdefg'), True)

    def test_lists_in_place_of_tuples(self):
        for many in (1, 2, 4, 40):
            self.check(star(many), list(names_for(many)), False)
        self.check((), 'a', False)
        self.check(OFFICE, 'abcd', False)

    def test_values_of_other_kinds(self):
        for value in odd_values():
            for office in ((), (0,), OFFICE):
                self.check(office, value, False)
        for item in odd_items() + [0, 1, 10 ** 36]:
            for index in range(4):
                self.check(OFFICE, START[:index] + (item,) + START[index + 1:], False)
        self.check(OFFICE, (START,), False)
        self.check(OFFICE, (1, 2, 3, 4), False)
        self.check(OFFICE, {'a': 0, 'b': 1, 'c': 2, 'd': 3}, False)

    def test_errors(self):
        for office in BAD_OFFICES + odd_values():
            for value in (START, None, (), [], EqualToAll()):
                check_error(self, NoOffice, is_seating, office, value)


class IsOrderTest(unittest.TestCase):

    def check(self, value, expected, office=OFFICE, seating=START):
        self.assertIs(is_order(office, seating, value), expected)

    def test_examples(self):
        self.check(('d', 'b'), True)
        self.check(ORDER, True)

    def test_all_orders_of_a_small_office(self):
        for length in range(6):
            for value in itertools.product('abcde', repeat=length):
                self.check(value, len(set(value)) == length and 'e' not in value)

    def test_orders_of_every_size(self):
        for office in sample_offices():
            seating = names_for(len(office) + 1)
            for order in orders_for(seating):
                self.check(order, True, office, seating)
                self.check(tuple(reversed(order)), True, office, seating)
                self.check(order + ('zzzzzzzz',), False, office, seating)
                self.check(order[:-1], True, office, seating)
                self.check(order + order, order == (), office, seating)
                self.check(list(order), False, office, seating)

    def test_a_name_replaced_or_repeated(self):
        for index in range(4):
            head, tail = ORDER[:index], ORDER[index + 1:]
            for name in BAD_NAMES + ['e', 'aa', 'ab']:
                self.check(head + (name,) + tail, False)
            for name in START:
                self.check(head + (name,) + tail, name == ORDER[index])
                self.check(head + (name,) + ORDER[index:], False)

    def test_values_of_other_kinds(self):
        for value in odd_values() + ['a', 'abcd', 0, 10 ** 36, (START,), {'a': 1}, (0, 1), (START[0], None)]:
            self.check(value, False)
        for item in odd_items() + [0, 1]:
            self.check((item,), False)
            self.check(('a', item), False)
            self.check((item, 'a'), False)

    def test_empty_order(self):
        self.check((), True)
        self.check((), True, (), ('a',))
        self.check([], False)
        self.check('', False)

    def test_errors_in_order(self):
        for value in (ORDER, (), None, [], ('e',), EqualToAll(), NotShown()):
            check_errors(self, is_order, (OFFICE, BAD_OFFICES + odd_values(), NoOffice),
                         (START, BAD_SEATINGS + odd_values(), NoSeating), (value, [], None))


class AfterCallTest(unittest.TestCase):

    def test_example(self):
        self.assertEqual(after_call(OFFICE, START, 'd'), ('a', 'b', 'd', 'c'))

    def test_a_call_at_desk_0_changes_nothing(self):
        for office in sample_offices():
            seating = names_for(len(office) + 1)
            self.assertEqual(after_call(office, seating, seating[0]), seating)

    def test_every_person_of_every_office(self):
        for office in sample_offices():
            seating = names_for(len(office) + 1)
            for name in seating:
                expected = simulate(office, seating, (name,), 1)[1][-1]
                found = after_call(office, seating, name)
                self.assertIs(type(found), tuple)
                self.assertEqual(found, expected)

    def test_all_seatings_of_a_small_office(self):
        for seating in itertools.permutations(START):
            for name in seating:
                self.assertEqual(after_call(OFFICE, seating, name), simulate(OFFICE, seating, (name,), 1)[1][-1])

    def test_errors_in_order(self):
        bad_names = BAD_NAMES + odd_values() + ['e', 'ab', 'abcd', 0, 1, ('a',), ['a'], START]
        check_errors(self, after_call, (OFFICE, BAD_OFFICES, NoOffice), (START, BAD_SEATINGS, NoSeating),
                     ('a', bad_names, NoName))

    def test_values_of_all_kinds(self):
        for value in odd_values():
            check_error(self, NoOffice, after_call, value, value, value)
            check_error(self, NoSeating, after_call, OFFICE, value, value)


class RunAndRecordTest(unittest.TestCase):

    def check_all(self, office, seating, order, numbers):
        """Check run and record for these numbers of calls, against calls one by one."""
        rows, seatings = simulate(office, seating, order, max(numbers))
        for calls in numbers:
            found = run(office, seating, order, calls)
            self.assertIs(type(found), tuple)
            self.assertEqual(found, seatings[min(calls, len(rows))])
            found = record(office, seating, order, calls)
            self.assertIs(type(found), list)
            self.assertEqual(found, rows[:calls])

    def test_examples(self):
        self.assertEqual(run(OFFICE, START, ORDER, 4), ('c', 'a', 'd', 'b'))
        self.assertEqual(record(OFFICE, START, ORDER, 4),
                         [('a', 0, None), ('b', 1, 'a'), ('c', 2, 'b'), ('d', 3, 'b')])

    def test_rows_are_tuples(self):
        for row in record(OFFICE, START, ORDER, 40):
            self.assertIs(type(row), tuple)
            self.assertEqual(len(row), 3)

    def test_0_to_300_calls(self):
        for office in [(), (0,), OFFICE, chain(7), star(6), grown(13, 1), grown(40, 2)]:
            seating = names_for(len(office) + 1)
            for order in orders_for(seating):
                with self.subTest((office, order)):
                    self.check_all(office, seating, order, range(301))

    def test_every_office_with_orders_of_all_some_and_none(self):
        for office in sample_offices():
            seating = names_for(len(office) + 1, 1)
            for order in orders_for(seating, 1):
                with self.subTest((office, order)):
                    self.check_all(office, seating, order, (0, 1, 2, len(order), 99))

    def test_all_small_states(self):
        for office in ((0, 1), (0, 0)):
            for seating in itertools.permutations('abc'):
                for length in range(4):
                    for order in itertools.permutations('abc', length):
                        self.check_all(office, seating, order, range(13))

    def test_the_greatest_number_of_calls(self):
        for office in [(), OFFICE, chain(40), star(40), grown(40, 0), grown(23, 5)]:
            seating = names_for(len(office) + 1, 2)
            for order in orders_for(seating, 2):
                with self.subTest((office, order)):
                    self.check_all(office, seating, order, (1999, 2000))
                    self.assertEqual(len(record(office, seating, order, 2000)), 2000 if order else 0)

    def test_calls_go_on_with_the_next_person(self):
        self.assertEqual(record(OFFICE, START, ('d', 'b', 'a'), 5)[3:],
                         record(OFFICE, run(OFFICE, START, ('d', 'b', 'a'), 3), ('d', 'b', 'a'), 2))
        self.assertEqual([name for name, _, _ in record(OFFICE, START, ('d', 'b', 'a'), 5)], ['d', 'b', 'a', 'd', 'b'])

    def test_empty_order(self):
        for calls in (0, 1, 2, 2000):
            self.assertEqual(run(OFFICE, START, (), calls), START)
            self.assertEqual(record(OFFICE, START, (), calls), [])
            check_new_list(self, record, OFFICE, START, (), calls)
        for calls in BAD_CALLS:
            check_error(self, NoCalls, run, OFFICE, START, (), calls)
            check_error(self, NoCalls, record, OFFICE, START, (), calls)

    def test_records_are_new(self):
        for calls in (0, 1, 4, 300):
            check_new_list(self, record, OFFICE, START, ORDER, calls)

    def test_errors_in_order(self):
        for function in (run, record):
            with self.subTest(function.__name__):
                check_errors(self, function, (OFFICE, BAD_OFFICES, NoOffice), (START, BAD_SEATINGS, NoSeating),
                             (ORDER, BAD_ORDERS, NoOrder), (4, BAD_CALLS, NoCalls))

    def test_values_of_all_kinds(self):
        for function in (run, record):
            for value in odd_values():
                check_error(self, NoOffice, function, value, START, ORDER, 4)
                check_error(self, NoSeating, function, OFFICE, value, ORDER, 4)
                check_error(self, NoOrder, function, OFFICE, START, value, 4)
                check_error(self, NoCalls, function, OFFICE, START, ORDER, value)


class ArgumentsTest(unittest.TestCase):

    def test_arguments_are_not_changed(self):
        offices = [OFFICE, [0, 0, 2], (0, [0])]
        seatings = [START, list(START), ('a', ['b'], 'c', 'd')]
        lasts = [ORDER, list(ORDER), ('d', ['b']), (), {'a': ['b']}, 'd', ['d']]
        for office, seating, last in itertools.product(offices, seatings, lasts):
            check_unchanged(self, is_seating, office, last)
            check_unchanged(self, is_order, office, seating, last)
            check_unchanged(self, after_call, office, seating, last)
            for calls in (4, [4], {4: [4]}):
                check_unchanged(self, run, office, seating, last, calls)
                check_unchanged(self, record, office, seating, last, calls)


if __name__ == '__main__':
    unittest.main()
