"""Points 7, 8 and 9, and section 10: far calls."""

import random
import unittest

from deskswaps.errors import NoCalls, NoDesk, NoName, NoOffice, NoOrder, NoSeating
from deskswaps.far import calls_at, desk_of, nth_call_at, seating_after
from tests.model import Orbit
from tests.support import (BAD_FAR_CALLS, BAD_NAMES, BAD_OFFICES, BAD_ORDERS, BAD_SEATINGS, OFFICE, ORDER, START,
                           EqualToAll, NotShown, chain, check_each_error, check_error, check_unchanged, grown,
                           names_for, odd_items, odd_values, sample_offices, sample_states, simulate, star)

MOST = 10 ** 30
FAR = [MOST, MOST - 1, MOST - 39, 10 ** 15 + 13, 12345678901234567890, 2001, 10 ** 9]
# Groups of 3, 5, 7, 8 and 11 lower desks: the whole office repeats after 9240 days only.
MIXED = (0,) * 4 + (4,) * 6 + (10,) * 8 + (18,) * 9 + (27,) * 11


def samples():
    return sample_states([(), (0,), OFFICE, star(4), chain(7), star(6), grown(9, 0), grown(13, 1), grown(23, 5),
                          chain(40), star(40), grown(40, 0), grown(40, 2)], 5)


def states():
    return sample_states(sample_offices(), 6)


def some_of(items, seed, many=4):
    return random.Random(seed).sample(list(items), min(many, len(items)))


class SeatingAfterTest(unittest.TestCase):

    def test_examples(self):
        self.assertEqual(seating_after(star(4), START, ORDER, 8 + 12 * 10 ** 20), ('d', 'c', 'a', 'b'))
        self.assertEqual(desk_of(OFFICE, START, ORDER, 'b', 4), 3)

    def test_0_to_2000_calls_one_by_one(self):
        for office, seating, order in samples():
            with self.subTest((office, seating, order)):
                seatings = simulate(office, seating, order, 2000)[1]
                for calls in [*range(100), *range(100, 1980, 47), *range(1980, 2001)]:
                    expected = seatings[calls] if order else seating
                    found = seating_after(office, seating, order, calls)
                    self.assertIs(type(found), tuple)
                    self.assertEqual(found, expected)

    def test_far_numbers_of_calls(self):
        for index, (office, seating, order) in enumerate(states()):
            if index % 3 == 0:
                with self.subTest((office, seating, order)):
                    orbit = Orbit(office, seating, order)
                    for calls in FAR + [len(order) * number for number in (0, 1, 2, 10 ** 20, 10 ** 28)]:
                        self.assertEqual(seating_after(office, seating, order, calls), orbit.seating_after(calls))

    def test_an_office_that_takes_long_to_repeat(self):
        names = names_for(39, 8)
        orbit = Orbit(MIXED, names, names[::-1])
        self.assertEqual(orbit.length, 9240)
        for calls in FAR + [39 * 10 ** 28 + more for more in range(40)]:
            self.assertEqual(seating_after(MIXED, names, names[::-1], calls), orbit.seating_after(calls))

    def test_desks_of_all_persons(self):
        for seed, (office, seating, order) in enumerate(samples()):
            for calls in (0, 1, 5, len(order), 2000, MOST - 1, MOST):
                after = seating_after(office, seating, order, calls)
                for name in some_of(seating, seed, 6):
                    found = desk_of(office, seating, order, name, calls)
                    self.assertIs(type(found), int)
                    self.assertEqual(after[found], name)

    def test_empty_order(self):
        for calls in (0, 1, 2000, MOST):
            self.assertEqual(seating_after(OFFICE, START, (), calls), START)
            self.assertEqual(seating_after((), ('a',), (), calls), ('a',))
            self.assertEqual([desk_of(OFFICE, START, (), name, calls) for name in START], [0, 1, 2, 3])


class CallsAtTest(unittest.TestCase):

    def test_examples(self):
        self.assertEqual(calls_at(OFFICE, START, ORDER, 'd', 3, 4 * 10 ** 9), 1000000000)
        self.assertEqual(nth_call_at(OFFICE, START, ORDER, 'd', 3, 5), 23)

    def check_near(self, office, seating, order, name, desk):
        """Check both functions against the calls one by one."""
        rows = simulate(office, seating, order, 2000)[0]
        numbers = [number for number, row in enumerate(rows) if row[:2] == (name, desk)]
        edges = [number + more for number in numbers[:5] + numbers[-5:] for more in (-1, 0, 1, 2)]
        for calls in [0, 1, 2, 3, 777, 1999, 2000] + edges:
            if 0 <= calls <= 2000:
                found = calls_at(office, seating, order, name, desk, calls)
                self.assertIs(type(found), int)
                self.assertEqual(found, len([number for number in numbers if number < calls]))
        for index in [*range(min(9, len(numbers))), *range(len(numbers))[-3:]]:
            found = nth_call_at(office, seating, order, name, desk, index)
            self.assertIs(type(found), int)
            self.assertEqual(found, numbers[index])

    def check_far(self, orbit, seating, name, desk):
        """Check both functions against the days until a state comes again."""
        args = (orbit.office, seating, orbit.order, name, desk)

        def count(calls):
            return orbit.total(lambda row: int(row[:2] == (name, desk)), calls)

        for calls in FAR:
            self.assertEqual(calls_at(*args, calls), count(calls))
        again = any(row[:2] == (name, desk) for rows in orbit.rows[orbit.first:] for row in rows)
        early = count(orbit.first * len(orbit.order))
        for number in [*range(early + 3), 10 ** 9, 10 ** 29 + 7, MOST - 1, MOST]:
            found = nth_call_at(*args, number)
            if number >= early and not again:
                self.assertIs(found, None)
            else:
                self.assertEqual((count(found), count(found + 1)), (number, number + 1))

    def test_near_numbers(self):
        for seed, (office, seating, order) in enumerate(samples()):
            many = 5 if len(seating) < 9 else 3
            for name in some_of(seating, seed, many):
                desks = [row[1] for row in simulate(office, seating, order, 2000)[0] if row[0] == name]
                visited = list(dict.fromkeys(desks[:4] + desks[-2:]))
                for desk in dict.fromkeys(visited + some_of(range(len(seating)), seed + 1, many)):
                    with self.subTest((office, seating, order, name, desk)):
                        self.check_near(office, seating, order, name, desk)

    def test_far_numbers(self):
        for seed, (office, seating, order) in enumerate(states()):
            orbit = Orbit(office, seating, order)
            if (len(seating) > 8 and seed % 7) or orbit.length > 100:
                continue
            for name in some_of(seating, seed, 3):
                desks = [row[1] for rows in orbit.rows for row in rows if row[0] == name]
                for desk in dict.fromkeys(desks[:2] + desks[-2:] + some_of(range(len(seating)), seed, 2)):
                    with self.subTest((office, seating, order, name, desk)):
                        self.check_far(orbit, seating, name, desk)

    def test_every_person_at_every_desk(self):
        for office, seating, order in [(OFFICE, START, ORDER), (OFFICE, START, ('d', 'b')), (star(4), START, ORDER),
                                       (chain(4), START, ('d', 'c', 'b', 'a')), (chain(3), ('a', 'b', 'c'), ('c',)),
                                       ((0, 0, 0, 1, 1), tuple('abcdef'), tuple('fdbeca')), ((), ('a',), ('a',))]:
            orbit = Orbit(office, seating, order)
            for name in seating:
                for desk in range(len(seating)):
                    self.check_near(office, seating, order, name, desk)
                    self.check_far(orbit, seating, name, desk)

    def test_all_calls_of_a_person_are_at_some_desk(self):
        for seed, (office, seating, order) in enumerate(samples()):
            for name in some_of(order, seed, 2):
                for calls in (0, 1, 1999, MOST - 1, MOST):
                    total = sum(calls_at(office, seating, order, name, desk, calls) for desk in range(len(seating)))
                    days, rest = divmod(calls, len(order))
                    self.assertEqual(total, days + int(name in order[:rest]))

    def test_an_office_that_takes_long_to_repeat(self):
        names = names_for(39, 8)
        orbit = Orbit(MIXED, names, names[::-1])
        for name in (names[0], names[17], names[38]):
            desk = orbit.rows[-1][names[::-1].index(name)][1]
            self.check_far(orbit, names, name, desk)

    def test_silent_persons(self):
        for order in (('b', 'a'), ('d',), ()):
            for name in set(START) - set(order):
                for desk in range(4):
                    for number in (0, 1, 2000, MOST):
                        self.assertEqual(calls_at(OFFICE, START, order, name, desk, number), 0)
                        self.assertIs(nth_call_at(OFFICE, START, order, name, desk, number), None)

    def test_desks_at_which_a_person_is_not_called_or_not_called_again(self):
        # On the first day everybody is called at the own desk; from then on the groups stay together.
        self.assertEqual(calls_at(OFFICE, START, ORDER, 'a', 0, MOST), 1)
        self.assertEqual(nth_call_at(OFFICE, START, ORDER, 'a', 0, 0), 0)
        self.assertIs(nth_call_at(OFFICE, START, ORDER, 'a', 0, 1), None)
        self.assertEqual(calls_at(OFFICE, START, ORDER, 'a', 2, MOST), 0)
        self.assertIs(nth_call_at(OFFICE, START, ORDER, 'a', 2, 0), None)
        self.assertIs(nth_call_at(OFFICE, START, ORDER, 'a', 2, MOST), None)

    def test_a_person_alone_at_desk_0(self):
        self.assertEqual(calls_at((), ('a',), ('a',), 'a', 0, MOST), MOST)
        self.assertEqual(nth_call_at((), ('a',), ('a',), 'a', 0, MOST), MOST)
        self.assertEqual(calls_at((0, 1), ('a', 'b', 'c'), ('c', 'b', 'a'), 'a', 0, MOST), 10 ** 30 // 3)
        self.assertEqual(nth_call_at((0, 1), ('a', 'b', 'c'), ('c', 'b', 'a'), 'a', 0, MOST), 3 * MOST + 2)


class ErrorsTest(unittest.TestCase):

    def parameters(self):
        return [(OFFICE, BAD_OFFICES + odd_values(), NoOffice), (START, BAD_SEATINGS + odd_values(), NoSeating),
                (ORDER, BAD_ORDERS + odd_values(), NoOrder)]

    def calls(self):
        return (4, BAD_FAR_CALLS + odd_values(), NoCalls)

    def name(self):
        return ('a', BAD_NAMES + odd_values() + ['e', 'ab', 'abcd', 0, 1, ('a',), ['a'], START], NoName)

    def desk(self):
        bad = [4, -1, True, False, 10 ** 36, -10 ** 36, 10 ** 5000, '0', 'a', (0,), [0], EqualToAll(), NotShown()]
        return (0, bad + odd_items(), NoDesk)

    def test_errors_in_order(self):
        check_each_error(self, seating_after, *self.parameters(), self.calls())
        check_each_error(self, desk_of, *self.parameters(), self.name(), self.calls())
        for function in (calls_at, nth_call_at):
            with self.subTest(function.__name__):
                check_each_error(self, function, *self.parameters(), self.name(), self.desk(), self.calls())

    def test_errors_for_silent_persons_and_empty_orders(self):
        for order in ((), ('b',)):
            for calls in (-1, MOST + 1, True, None, '4', (4,)):
                check_error(self, NoCalls, seating_after, OFFICE, START, order, calls)
                check_error(self, NoCalls, desk_of, OFFICE, START, order, 'a', calls)
                for function in (calls_at, nth_call_at):
                    check_error(self, NoCalls, function, OFFICE, START, order, 'a', 0, calls)
                    check_error(self, NoDesk, function, OFFICE, START, order, 'a', 4, calls)
                    check_error(self, NoName, function, OFFICE, START, order, 'e', 4, calls)

    def test_the_least_and_the_greatest_number(self):
        for number in (0, MOST):
            self.assertEqual(seating_after((0,), ('b', 'a'), ('a', 'b'), number), ('b', 'a'))
            self.assertEqual(desk_of((0,), ('b', 'a'), ('a', 'b'), 'a', number), 1)
            self.assertEqual(calls_at((), ('a',), ('a',), 'a', 0, number), number)
            self.assertEqual(nth_call_at((), ('a',), ('a',), 'a', 0, number), number)
        for number in (-1, MOST + 1):
            check_error(self, NoCalls, seating_after, (), ('a',), ('a',), number)
            check_error(self, NoCalls, desk_of, (), ('a',), ('a',), 'a', number)
            check_error(self, NoCalls, calls_at, (), ('a',), ('a',), 'a', 0, number)
            check_error(self, NoCalls, nth_call_at, (), ('a',), ('a',), 'a', 0, number)

    def test_arguments_are_not_changed(self):
        for order in (ORDER, ('b',), (), ['b'], ('d', ['b'])):
            for office, seating in ((OFFICE, START), ([0, 0, 2], START), (OFFICE, list(START))):
                for calls in (4, [4], {4: [4]}):
                    check_unchanged(self, seating_after, office, seating, order, calls)
                    for name in ('b', ['b'], {'b': ['b']}):
                        check_unchanged(self, desk_of, office, seating, order, name, calls)
                        for desk in (1, [1], {1: [1]}):
                            check_unchanged(self, calls_at, office, seating, order, name, desk, calls)
                            check_unchanged(self, nth_call_at, office, seating, order, name, desk, calls)


if __name__ == '__main__':
    unittest.main()
