"""Points 2, 7 and 9, and section 6: costs and passes."""

import itertools
import unittest

from deskswaps.costs import cost_of_calls, day_cost, final_cost, passes
from deskswaps.errors import NoCalls, NoOffice, NoOrder, NoSeating
from tests.model import Orbit
from tests.support import (BAD_FAR_CALLS, BAD_OFFICES, BAD_ORDERS, BAD_SEATINGS, OFFICE, ORDER, START, chain,
                           check_each_error, check_error, check_errors, check_new_list, check_unchanged, grown,
                           names_for, odd_values, orders_for, sample_offices, sample_states, simulate, star, walk_up)

SETTLED = ('c', 'a', 'd', 'b')
MOST = 10 ** 30


def states():
    return sample_states(sample_offices(), 4)


def cost_of_rows(office, rows):
    return sum(len(walk_up(office, desk)) - 1 for _, desk, _ in rows)


def passes_of_rows(rows):
    """The passes over persons that are called in a later row."""
    return [(name, passed) for index, (name, _, passed) in enumerate(rows)
            if passed in [later for later, _, _ in rows[index + 1:]]]


class DayTest(unittest.TestCase):

    def check(self, office, seating, order):
        rows = simulate(office, seating, order, len(order))[0]
        cost = day_cost(office, seating, order)
        self.assertIs(type(cost), int)
        self.assertEqual(cost, cost_of_rows(office, rows))
        found = passes(office, seating, order)
        self.assertIs(type(found), list)
        self.assertTrue(all(type(item) is tuple for item in found))
        self.assertEqual(found, passes_of_rows(rows))
        at_first = sum(len(walk_up(office, seating.index(name))) - 1 for name in order)
        self.assertEqual(at_first + len(found), cost)

    def test_examples(self):
        self.assertEqual(day_cost(OFFICE, SETTLED, ORDER), 6)
        self.assertEqual(passes(OFFICE, SETTLED, ORDER), [('a', 'c'), ('b', 'd')])
        self.assertEqual(day_cost(OFFICE, START, ORDER), 4)
        self.assertEqual(passes(OFFICE, START, ORDER), [])

    def test_a_silent_or_earlier_person_does_not_count(self):
        self.assertEqual(passes((0,), ('a', 'b'), ('b',)), [])
        self.assertEqual(passes((0,), ('a', 'b'), ('a', 'b')), [])
        self.assertEqual(passes((0,), ('a', 'b'), ('b', 'a')), [('b', 'a')])
        self.assertEqual(day_cost((0,), ('a', 'b'), ('b', 'a')), 2)

    def test_all_small_states(self):
        for office in ((), (0,), (0, 0), (0, 1), OFFICE, (0, 1, 2), (0, 1, 1), (0, 0, 1), (0, 0, 0)):
            names = 'abcd'[:len(office) + 1]
            for seating in itertools.permutations(names):
                for length in range(len(names) + 1):
                    for order in itertools.permutations(names, length):
                        self.check(office, seating, order)

    def test_offices_of_every_size(self):
        for office, seating, order in states():
            with self.subTest((office, seating, order)):
                self.check(office, seating, order)

    def test_empty_order(self):
        for office in sample_offices():
            names = names_for(len(office) + 1)
            self.assertEqual(day_cost(office, names, ()), 0)
            self.assertEqual(passes(office, names, ()), [])
            self.assertEqual(final_cost(office, names, ()), 0)
            for calls in (0, 1, 2000, MOST):
                self.assertEqual(cost_of_calls(office, names, (), calls), 0)

    def test_the_list_is_new(self):
        check_new_list(self, passes, OFFICE, SETTLED, ORDER)
        check_new_list(self, passes, OFFICE, START, ORDER)
        check_new_list(self, passes, OFFICE, START, ())


class CallsTest(unittest.TestCase):

    def test_example(self):
        self.assertEqual(cost_of_calls(OFFICE, START, ORDER, 4 + 4 * 10 ** 9), 6000000004)
        self.assertEqual(final_cost(OFFICE, START, ORDER), 6)

    def test_0_to_2000_calls_one_by_one(self):
        for office in [(), (0,), OFFICE, chain(7), star(6), grown(13, 1), chain(40), star(40), grown(40, 2)]:
            seating = names_for(len(office) + 1)
            for order in orders_for(seating):
                with self.subTest((office, order)):
                    rows = simulate(office, seating, order, 2000)[0]
                    expected = 0
                    for calls in range(2001):
                        if calls < 60 or calls > 1960 or calls % 37 == 0:
                            self.assertEqual(cost_of_calls(office, seating, order, calls), expected)
                        expected += cost_of_rows(office, rows[calls:calls + 1])

    def test_every_number_of_calls_of_the_first_days(self):
        for office, seating, order in states():
            rows = simulate(office, seating, order, 150)[0]
            for calls in (0, 1, 2, 3, len(order), len(order) + 1, 149, 150):
                found = cost_of_calls(office, seating, order, calls)
                self.assertIs(type(found), int)
                self.assertEqual(found, cost_of_rows(office, rows[:calls]))

    def test_growth_from_day_to_day(self):
        for office, seating, order in states():
            with self.subTest((office, seating, order)):
                many = len(order)
                settled_calls = len(seating) * many
                rows, seatings = simulate(office, seating, order, settled_calls)
                final = final_cost(office, seating, order)
                self.assertIs(type(final), int)
                self.assertEqual(final, day_cost(office, seatings[-1], order))
                before = cost_of_calls(office, seating, order, settled_calls)
                self.assertEqual(before, cost_of_rows(office, rows))
                for calls in (settled_calls, settled_calls + 1, 10 ** 12 + 7, MOST - many - 3, MOST - many):
                    one, other = [cost_of_calls(office, seating, order, calls + more) for more in (0, many)]
                    self.assertEqual(other - one, final)
                days, rest = divmod(MOST - settled_calls, many) if order else (0, 0)
                self.assertEqual(cost_of_calls(office, seating, order, MOST - rest), before + days * final)

    def test_far_numbers_of_calls(self):
        for index, (office, seating, order) in enumerate(states()):
            if index % 4 == 0:
                orbit = Orbit(office, seating, order)
                for calls in (MOST, MOST - 1, MOST - 17, 10 ** 15 + 13, 12345678901234567890):
                    expected = orbit.total(lambda row: cost_of_rows(office, [row]), calls)
                    self.assertEqual(cost_of_calls(office, seating, order, calls), expected)

    def test_all_final_days_have_the_same_cost(self):
        for index, (office, seating, order) in enumerate(states()):
            if index % 4 == 0:
                orbit = Orbit(office, seating, order)
                costs = {cost_of_rows(office, rows) for rows in orbit.rows[orbit.first:]}
                self.assertEqual(costs, {final_cost(office, seating, order)})

    def test_if_everybody_is_called_all_seatings_have_the_same_final_cost(self):
        for office in ((0, 1), (0, 0), OFFICE, (0, 1, 1), (0, 0, 0)):
            names = 'abcd'[:len(office) + 1]
            costs = {final_cost(office, seating, order) for seating in itertools.permutations(names)
                     for order in itertools.permutations(names)}
            self.assertEqual(len(costs), 1)


class ErrorsTest(unittest.TestCase):

    def parameters(self):
        return [(OFFICE, BAD_OFFICES + odd_values(), NoOffice), (START, BAD_SEATINGS + odd_values(), NoSeating),
                (ORDER, BAD_ORDERS + odd_values(), NoOrder)]

    def test_errors_in_order(self):
        for function in (day_cost, passes, final_cost):
            with self.subTest(function.__name__):
                check_each_error(self, function, *self.parameters())
                check_errors(self, function, (OFFICE, BAD_OFFICES, NoOffice), (START, BAD_SEATINGS, NoSeating),
                             (ORDER, BAD_ORDERS, NoOrder))
        for calls in (0, 4, MOST):
            check_each_error(self, cost_of_calls, *self.parameters(), (calls, BAD_FAR_CALLS + odd_values(), NoCalls))

    def test_the_greatest_number_of_calls(self):
        self.assertEqual(cost_of_calls(OFFICE, SETTLED, ORDER, MOST), 6 * MOST // 4)
        check_error(self, NoCalls, cost_of_calls, OFFICE, START, ORDER, MOST + 1)
        check_error(self, NoCalls, cost_of_calls, OFFICE, START, (), MOST + 1)
        check_error(self, NoCalls, cost_of_calls, OFFICE, START, (), -1)

    def test_arguments_are_not_changed(self):
        for order in (ORDER, ('b',), (), ['b'], ('d', ['b'])):
            for office, seating in ((OFFICE, START), ([0, 0, 2], START), (OFFICE, list(START))):
                for function in (day_cost, passes, final_cost):
                    check_unchanged(self, function, office, seating, order)
                for calls in (4, [4], {4: [4]}):
                    check_unchanged(self, cost_of_calls, office, seating, order, calls)


if __name__ == '__main__':
    unittest.main()
