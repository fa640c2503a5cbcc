"""Points 3, 4, 5 and 9, and section 4: offices."""

import itertools
import math
import unittest

from deskswaps.errors import NoDesk, NoOffice
from deskswaps.offices import below, depth, is_office, path_up, superior
from tests.support import (OFFICE, NotShown, chain, check_error, check_errors, check_new_list, check_unchanged,
                           odd_items, odd_values, offices_with, sample_offices, star, walk_up)

BAD_OFFICES = [(1,), (0, 2), (-1,), (0, True), (False,), star(41), [], [0, 0, 2], '', None, 0, {}, (0, '0'),
               (0, None), NotShown()]
BAD_DESKS = [-1, 4, True, False, None, '0', b'0', (), (0,), [], [0], {}, 10 ** 36, -10 ** 36, 10 ** 5000, NotShown()]


class IsOfficeTest(unittest.TestCase):

    def check(self, value, expected):
        self.assertIs(is_office(value), expected)

    def test_examples(self):
        self.check((0, 2), False)
        self.check(OFFICE, True)

    def test_offices_of_every_size(self):
        for many in range(1, 41):
            for office in offices_with(many):
                with self.subTest(office):
                    self.check(office, True)

    def test_one_desk_and_forty_desks_are_the_limits(self):
        self.check((), True)
        for many in (40, 41, 42, 2000):
            for office in offices_with(many):
                self.check(office, many == 40)

    def test_all_small_tuples(self):
        for length in range(5):
            values = list(itertools.product(range(-2, length + 2), repeat=length))
            offices = [value for value in values if is_office(value)]
            self.assertEqual(len(offices), math.factorial(length))
            for value in offices:
                self.assertTrue(all(value[index] in range(index + 1) for index in range(length)))

    def test_an_item_replaced(self):
        for many in (2, 3, 5, 17, 40):
            for office in offices_with(many):
                for index in range(many - 1):
                    head, tail = office[:index], office[index + 1:]
                    for item in range(-2, many + 2):
                        self.check(head + (item,) + tail, 0 <= item <= index)
                    for item in (index + 1, -10 ** 36, 10 ** 36, 10 ** 5000, -10 ** 5000):
                        self.check(head + (item,) + tail, False)

    def test_an_item_of_another_kind(self):
        for office in (chain(2), OFFICE, chain(7)):
            for index in range(len(office)):
                for item in odd_items():
                    self.check(office[:index] + (item,) + office[index + 1:], False)
                    self.check(office[:index] + (item,) + office[index:], False)

    def test_true_and_false_are_no_items(self):
        self.check((False,), False)
        self.check((0, True), False)
        self.check((0, False), False)
        self.check((0, 1), True)

    def test_an_item_added(self):
        for many in (1, 2, 5, 39):
            for office in offices_with(many):
                self.check(office + (many - 1,), True)
                self.check(office + (many,), False)
                self.check(office + (-1,), False)
                self.check((0,) + office, True)
                self.check((1,) + office, False)
        for office in offices_with(40):
            self.check(office + (0,), False)

    def test_an_item_removed(self):
        for many in (2, 3, 5, 17, 40):
            for office in offices_with(many):
                self.check(office[:-1], True)
        self.check(chain(5)[1:], False)
        self.check(chain(5)[:2] + chain(5)[3:], False)
        self.check(star(5)[1:], True)

    def test_lists_in_place_of_tuples(self):
        for office in sample_offices():
            self.check(list(office), False)
        self.check(((0,), 0), False)
        self.check(([0],), False)

    def test_values_of_other_kinds(self):
        for value in odd_values():
            self.check(value, False)
        for value in (0, 1, -1, 10 ** 36, 'abc', '0' * 5000, {0: 0, 1: 0}, nested_office(), (OFFICE,), 3j):
            self.check(value, False)

    def test_a_generator_is_not_used_up(self):
        values = iter((0, 0))
        self.check(values, False)
        self.assertEqual(list(values), [0, 0])


def nested_office():
    value = ()
    for _ in range(40):
        value = (0, value)
    return value


class DesksTest(unittest.TestCase):

    def test_examples(self):
        self.assertEqual(superior(OFFICE, 3), 2)
        self.assertEqual(below(OFFICE, 0), [1, 2])
        self.assertEqual(depth(OFFICE, 3), 2)
        self.assertEqual(path_up(OFFICE, 3), [3, 2, 0])

    def test_a_single_desk(self):
        self.assertIsNone(superior((), 0))
        self.assertEqual(below((), 0), [])
        self.assertEqual(depth((), 0), 0)
        self.assertEqual(path_up((), 0), [0])

    def test_every_desk_against_a_walk_up_the_tree(self):
        for office in sample_offices():
            desks = range(len(office) + 1)
            paths = [walk_up(office, desk) for desk in desks]
            for desk in desks:
                with self.subTest((office, desk)):
                    path = paths[desk]
                    self.assertEqual(path_up(office, desk), path)
                    self.assertEqual(depth(office, desk), len(path[1:]))
                    self.assertEqual(superior(office, desk), path[1] if len(path) > 1 else None)
                    self.assertEqual(below(office, desk), [one for one in desks if paths[one][1:2] == [desk]])

    def test_chain_and_star_of_forty_desks(self):
        self.assertEqual(path_up(chain(40), 39), list(range(39, -1, -1)))
        self.assertEqual(depth(chain(40), 39), 39)
        self.assertEqual(below(star(40), 0), list(range(1, 40)))
        self.assertEqual(depth(star(40), 39), 1)

    def test_returned_lists_are_new(self):
        for office in [(), OFFICE, chain(40), star(40)]:
            for desk in range(len(office) + 1):
                check_new_list(self, below, office, desk)
                check_new_list(self, path_up, office, desk)

    def test_errors_in_order(self):
        for function in (superior, below, depth, path_up):
            with self.subTest(function.__name__):
                check_errors(self, function, (OFFICE, BAD_OFFICES, NoOffice), (1, BAD_DESKS, NoDesk))

    def test_values_of_all_kinds(self):
        for function in (superior, below, depth, path_up):
            for value in odd_values():
                check_error(self, NoOffice, function, value, 0)
                check_error(self, NoOffice, function, value, value)
                check_error(self, NoDesk, function, OFFICE, value)

    def test_the_number_of_desks_is_no_desk(self):
        for office in sample_offices():
            for function in (superior, below, depth, path_up):
                for desk in (-1, len(office) + 1, True, False):
                    check_error(self, NoDesk, function, office, desk)

    def test_arguments_are_not_changed(self):
        for value in ((), OFFICE, [0, 0, 2], (0, [0]), {0: [0]}, ([],)):
            check_unchanged(self, is_office, value)
            for function in (superior, below, depth, path_up):
                for desk in (0, 3, [0], {0: [1]}, ([2],)):
                    check_unchanged(self, function, value, desk)


if __name__ == '__main__':
    unittest.main()
