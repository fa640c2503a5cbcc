"""Points 2 and 10, and section 7: the groups if everybody is called."""

import itertools
import math
import random
import unittest

from deskswaps.errors import NoOffice
from deskswaps.groups import groups, is_alone, levels, period, recurrent_count
from deskswaps.settling import groups_of
from deskswaps.states import is_recurrent
from tests.model import day_map, left_for_ever, removed_groups, small_offices
from tests.support import (BAD_OFFICES, OFFICE, binary, chain, check_each_error, check_new_list, check_unchanged,
                           group_office, grown, names_for, odd_values, sample_offices, star)

FUNCTIONS = (groups, is_alone, levels, period, recurrent_count)


def many_offices():
    yield from small_offices(6)
    yield from sample_offices()
    for many in range(2, 41):
        for seed in range(10, 16):
            yield grown(many, seed)
    yield from (group_office(sizes) for sizes in ([1], [39], [1] * 20, [3, 5, 7, 8, 11], [2, 3, 4, 5, 6], [4, 6, 10]))


def longest_chain(office, found, center):
    """The number of groups of the longest chain that begins with the group of this center."""
    desks = [center] + found[center]
    under = [other for other in found if other > 0 and office[other - 1] in desks]
    return 1 + max([longest_chain(office, found, other) for other in under], default=0)


class GroupsTest(unittest.TestCase):

    def test_examples(self):
        self.assertEqual(groups(OFFICE), [(0, [1]), (2, [3])])
        self.assertIs(is_alone((0, 1)), True)
        self.assertIs(is_alone(OFFICE), False)
        self.assertEqual(levels(OFFICE), 2)
        self.assertEqual(period((0, 0, 1, 1, 2, 2, 2)), 6)
        self.assertEqual(recurrent_count(OFFICE), 6)

    def test_one_desk(self):
        self.assertEqual(groups(()), [])
        self.assertIs(is_alone(()), True)
        self.assertEqual((levels(()), period(()), recurrent_count(())), (0, 1, 1))

    def test_chains_and_stars(self):
        for many in range(1, 41):
            pairs = [(desk, [desk + 1]) for desk in range(many % 2, many - 1, 2)]
            self.assertEqual(groups(chain(many)), pairs)
            self.assertIs(is_alone(chain(many)), many % 2 == 1)
            self.assertEqual(levels(chain(many)), many // 2)
            self.assertEqual(period(chain(many)), 1)
            self.assertEqual(recurrent_count(chain(many)), math.factorial(many) // 2 ** (many // 2))
            if many > 1:
                self.assertEqual(groups(star(many)), [(0, list(range(1, many)))])
                self.assertIs(is_alone(star(many)), False)
                self.assertEqual(levels(star(many)), 1)
                self.assertEqual(period(star(many)), many - 1)
                self.assertEqual(recurrent_count(star(many)), math.factorial(many - 1))

    def test_repeated_removal(self):
        for office in many_offices():
            with self.subTest(office):
                expected, alone = removed_groups(office)
                found = groups(office)
                self.assertEqual(found, expected)
                self.assertTrue(all(type(group) is tuple and type(group[1]) is list for group in found))
                self.assertIs(is_alone(office), alone)

    def test_levels_are_the_longest_chain_of_groups(self):
        for office in many_offices():
            found = dict(groups(office))
            expected = max([longest_chain(office, found, center) for center in found], default=0)
            self.assertIs(type(levels(office)), int)
            self.assertEqual(levels(office), expected)

    def test_period_is_the_least_number_that_all_numbers_of_lower_desks_divide(self):
        for office in many_offices():
            sizes = [len(lower) for _, lower in groups(office)]
            number = 1
            while any(number % size for size in sizes):
                number += 1
            self.assertIs(type(period(office)), int)
            self.assertEqual(period(office), number)

    def test_recurrent_count_is_the_factorial_divided_by_the_group_sizes(self):
        for office in many_offices():
            product = math.prod(1 + len(lower) for _, lower in groups(office))
            self.assertIs(type(recurrent_count(office)), int)
            self.assertEqual(recurrent_count(office) * product, math.factorial(len(office) + 1))

    def test_groups_of_any_seating(self):
        for index, office in enumerate(many_offices()):
            chance = random.Random(index)
            names = names_for(len(office) + 1, index)
            for _ in range(2):
                seating, order = [tuple(chance.sample(names, len(names))) for _ in range(2)]
                found = [(center, lower) for center, lower, _ in groups_of(office, seating, order)]
                self.assertEqual(found, groups(office))

    def test_an_office_has_no_groups_but_those(self):
        self.assertEqual(groups(binary(7)), [(1, [3, 4]), (2, [5, 6])])
        self.assertEqual(groups((0, 0, 1, 1, 2, 2, 2)), [(1, [3, 4]), (2, [5, 6, 7])])
        self.assertEqual(groups((0, 0, 0, 1, 3)), [(0, [2]), (1, [4]), (3, [5])])

    def test_the_list_is_new_down_to_its_parts(self):
        for office in (OFFICE, star(4), chain(5), ()):
            check_new_list(self, groups, office)
            first, second = groups(office), groups(office)
            lists = [first, second] + [lower for _, lower in first + second]
            self.assertEqual(len({id(part) for part in lists}), len(lists))
            before = [(center, list(lower)) for center, lower in first]
            for part in lists:
                part.append(99)
            self.assertEqual(groups(office), before)


class DaysTest(unittest.TestCase):
    """Everybody is called: all seatings of small offices, gone day by day."""

    def check(self, office, order):
        following = day_map(office, order, order)
        left = left_for_ever(following)
        self.assertEqual(recurrent_count(office), len(left))
        for seating in itertools.permutations(order):
            self.assertIs(is_recurrent(office, seating, order), seating in left)
        now = set(following)
        for _ in range(levels(office)):
            now = {following[seating] for seating in now}
        self.assertEqual(now, left)
        later = {seating: seating for seating in left}
        for day in range(1, period(office) + 1):
            later = {seating: following[after] for seating, after in later.items()}
            same = all(seating == after for seating, after in later.items())
            self.assertIs(same, day == period(office))

    def test_up_to_six_desks(self):
        for office in small_offices(6):
            with self.subTest(office):
                self.check(office, tuple('fbdace'[-len(office) - 1:]))

    def test_other_orders_of_four_desks(self):
        for office in small_offices(4):
            for order in itertools.permutations('abcd'[:len(office) + 1]):
                self.check(office, order)


class ErrorsTest(unittest.TestCase):

    def test_errors(self):
        for function in FUNCTIONS:
            with self.subTest(function.__name__):
                check_each_error(self, function, (OFFICE, BAD_OFFICES + [(0, -1), (0, 0, 3)] + odd_values(), NoOffice))

    def test_arguments_are_not_changed(self):
        for function in FUNCTIONS:
            for office in (OFFICE, star(40), (), [0, 0, 2], [[0]], {0: [0]}):
                check_unchanged(self, function, office)


if __name__ == '__main__':
    unittest.main()
