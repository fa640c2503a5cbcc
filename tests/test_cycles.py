"""Points 2, 7 and 8, and section 11: cycles, and runs that meet."""

import itertools
import math
import random
import unittest

from deskswaps.calls import after_call
from deskswaps.cycles import cycle_length, cycle_of, meet, passes_in_cycle
from deskswaps.errors import NoName, NoOffice, NoOrder, NoSeating, NotAlike, TooMany
from deskswaps.groups import period
from tests.model import Orbit, groups_by_table, small_offices
from tests.support import (BAD_NAMES, BAD_OFFICES, BAD_ORDERS, BAD_SEATINGS, OFFICE, ORDER, START, Persons, chain,
                           check_each_error, check_error, check_new_list, check_unchanged, group_office, grown,
                           names_for, odd_values, orders_for, sample_offices, sample_states, simulate, star)

# Numbers of lower desks of the groups, and the length of the cycle if everybody is called.
LONG = [([8, 25], 200), ([25, 8], 200), ([1, 8, 25, 1], 200), ([3, 4, 17], 204), ([2, 9, 11], 198),
        ([5, 6, 7], 210), ([3, 5, 7, 2], 210), ([11, 19], 209), ([13, 16], 208), ([3, 5, 7, 8, 11], 9240),
        ([12, 17], 204), ([7, 8, 9], 504), ([14, 15], 210), ([10, 20], 20), ([6, 9, 18], 18)]
MOST = 200


def states():
    return sample_states(sample_offices(), 11)


def small_states(most):
    """All states of small offices; by their names all orders are alike but for the number of persons."""
    for office in small_offices(most):
        names = 'abcde'[:len(office) + 1]
        for called in range(len(names) + 1):
            for seating in itertools.permutations(names):
                yield office, seating, tuple(names[:called])


def long_states():
    """Offices with long cycles, and the lengths of these."""
    for index, (numbers, length) in enumerate(LONG):
        office = group_office(numbers)
        names = names_for(len(office) + 1, index)
        yield office, names, tuple(random.Random(index).sample(names, len(names))), length


class CycleLengthTest(unittest.TestCase):

    def check(self, office, seating, order):
        orbit = Orbit(office, seating, order)
        found = cycle_length(office, seating, order)
        self.assertIs(type(found), int)
        self.assertEqual(found, orbit.length)
        if found <= MOST:
            cycle = cycle_of(office, seating, order)
            self.assertIs(type(cycle), list)
            self.assertEqual(cycle, orbit.states[orbit.first:])
        else:
            self.check_too_many(found, office, seating, order)

    def check_too_many(self, length, *args):
        with self.assertRaises(TooMany) as caught:
            cycle_of(*args)
        self.assertIs(type(caught.exception), TooMany)
        self.assertEqual(caught.exception.size, length)

    def test_examples(self):
        self.assertEqual(cycle_length(star(4), START, ORDER), 3)
        self.assertEqual(cycle_of(star(4), ('d', 'a', 'b', 'c'), ORDER),
                         [('d', 'a', 'b', 'c'), ('d', 'c', 'a', 'b'), ('d', 'b', 'c', 'a')])

    def test_small_states(self):
        for office, seating, order in small_states(4):
            self.check(office, seating, order)

    def test_offices_of_every_size(self):
        for index, (office, seating, order) in enumerate(states()):
            if index % 3 == 0 or len(seating) < 9:
                with self.subTest((office, seating, order)):
                    self.check(office, seating, order)

    def test_long_cycles(self):
        for office, seating, order, length in long_states():
            with self.subTest(length):
                self.assertEqual(cycle_length(office, seating, order), length)
                self.assertEqual(period(office), length)
                if length <= MOST:
                    self.check(office, seating, order)
                else:
                    self.check_too_many(length, office, seating, order)

    def test_just_200_days_are_no_error(self):
        office = group_office([8, 25])
        names = names_for(len(office) + 1)
        self.check(office, names, names)
        self.assertEqual(len(cycle_of(office, names, names)), 200)
        office = group_office([12, 17])
        names = names_for(len(office) + 1)
        self.check_too_many(204, office, names, names)

    def test_least_common_multiple_of_the_groups(self):
        for office, seating, order in states():
            orbit = Orbit(office, seating, order)
            found = groups_by_table(office, orbit.states[orbit.first], order)
            self.assertEqual(cycle_length(office, seating, order), math.lcm(*[len(lower) for _, lower, _ in found]))

    def test_empty_order(self):
        for office in sample_offices():
            names = names_for(len(office) + 1)
            self.assertEqual(cycle_length(office, names, ()), 1)
            self.assertEqual(cycle_of(office, names, ()), [names])

    def test_the_list_is_new(self):
        for order in (ORDER, ('d', 'b'), ()):
            check_new_list(self, cycle_of, OFFICE, START, order)
            check_new_list(self, cycle_of, star(4), START, order)


class PassesTest(unittest.TestCase):

    def check(self, office, seating, order, pairs):
        orbit = Orbit(office, seating, order)
        counts = {}
        for rows in orbit.rows[orbit.first:]:
            for name, _, passed in rows:
                counts[name, passed] = counts.get((name, passed), 0) + 1
        for one, other in pairs:
            found = passes_in_cycle(office, seating, order, one, other)
            self.assertIs(type(found), int)
            self.assertEqual(found, counts.get((one, other), 0))

    def test_example(self):
        self.assertEqual(passes_in_cycle(OFFICE, START, ORDER, 'a', 'c'), 1)

    def test_all_pairs_of_small_states(self):
        for office, seating, order in small_states(4):
            self.check(office, seating, order, itertools.product(seating, repeat=2))

    def test_offices_of_every_size(self):
        for index, (office, seating, order) in enumerate(states()):
            if index % 3 == 0:
                chance = random.Random(index)
                pairs = [(chance.choice(seating), chance.choice(seating)) for _ in range(4)]
                orbit = Orbit(office, seating, order)
                last = orbit.rows[-1]
                pairs += [(name, passed) for name, _, passed in last if passed is not None][:3]
                pairs += [(passed, name) for name, passed in pairs[-2:]]
                self.check(office, seating, order, pairs)

    def test_all_pairs_of_an_office(self):
        for office in (star(6), group_office([3, 4, 2]), grown(12, 3)):
            names = names_for(len(office) + 1)
            for order in orders_for(names):
                self.check(office, names, order, itertools.product(names, repeat=2))

    def test_long_cycles(self):
        for office, seating, order, length in long_states():
            if length < 600:
                last = simulate(office, seating, order, 45 * len(order))[0][-len(order):]
                pairs = [(name, passed) for name, _, passed in last if passed is not None]
                self.check(office, seating, order, pairs + [(name, name) for name in seating])
                self.assertIn(length, [passes_in_cycle(office, seating, order, *pair) for pair in pairs])
        office = group_office([3, 5, 7, 8, 11])
        names = names_for(39)
        self.assertEqual(max(passes_in_cycle(office, names, names, names[0], name) for name in names), 9240)

    def test_the_same_person_twice(self):
        for office, seating, order in states():
            self.assertEqual([passes_in_cycle(office, seating, order, name, name) for name in seating[:5]],
                             [0] * len(seating[:5]))

    def test_silent_persons(self):
        self.assertEqual(passes_in_cycle(OFFICE, START, (), 'a', 'b'), 0)
        self.assertEqual(passes_in_cycle(OFFICE, START, ('d',), 'd', 'c'), 0)
        self.assertEqual(passes_in_cycle(star(4), START, ('c', 'd'), 'c', 'd'), 1)
        self.assertEqual(passes_in_cycle(star(4), START, ('c', 'd'), 'c', 'a'), 0)


class MeetTest(unittest.TestCase):

    def expected(self, office, seating, other, order):
        """The number by two runs gone call by call, for as many days as there are desks and one more."""
        runs = [Persons(office, seating), Persons(office, other)]
        if seating == other:
            return 0
        for number, name in enumerate(order * (len(seating) + 1), 1):
            for persons in runs:
                persons.call(name)
            if runs[0].desks == runs[1].desks:
                return number
        return None

    def check(self, office, seating, other, order):
        found = meet(office, seating, other, order)
        self.assertEqual(found, self.expected(office, seating, other, order))
        self.assertIn(type(found), (int, type(None)))
        self.assertEqual(meet(office, other, seating, order), found)

    def test_example(self):
        self.assertEqual(meet(OFFICE, START, ('b', 'a', 'c', 'd'), ORDER), 1)

    def test_all_pairs_of_small_offices(self):
        for office in small_offices(3) + [OFFICE, star(4), chain(4), (0, 1, 1)]:
            names = 'abcd'[:len(office) + 1]
            for called in range(len(names) + 1):
                for seating, other in itertools.product(itertools.permutations(names), repeat=2):
                    self.check(office, seating, other, tuple(names[:called]))

    def test_equal_seatings(self):
        for office, seating, order in states():
            self.assertEqual(meet(office, seating, seating, order), 0)

    def test_two_persons_exchanged_or_one_call_apart_or_any(self):
        for index, (office, seating, order) in enumerate(states()):
            if len(seating) > 12 and index % 6:
                continue
            chance = random.Random(index)
            exchanged = list(seating)
            one, other = [chance.randrange(len(seating)) for _ in range(2)]
            exchanged[one], exchanged[other] = exchanged[other], exchanged[one]
            self.check(office, seating, tuple(exchanged), order)
            self.check(office, seating, after_call(office, seating, chance.choice(seating)), order)
            self.check(office, seating, tuple(chance.sample(seating, len(seating))), order)
            if order and seating.index(order[0]) > 0:
                self.check(office, seating, after_call(office, seating, order[0]), order)

    def test_runs_that_meet_and_runs_that_never_do(self):
        found = {}
        for office, seating, order in small_states(4):
            for other in itertools.permutations(sorted(seating)):
                number = meet(office, seating, other, order)
                found[number] = found.get(number, 0) + 1
        self.assertGreater(found[None], 0)
        # Some runs meet on a later day only.
        self.assertGreater(max(number for number in found if number is not None), 4)

    def test_empty_order(self):
        self.assertEqual(meet(OFFICE, START, START, ()), 0)
        self.assertIs(meet(OFFICE, START, ('b', 'a', 'c', 'd'), ()), None)
        self.assertEqual(meet((), ('a',), ('a',), ('a',)), 0)


class SameRunTest(unittest.TestCase):

    def test_other_names(self):
        for index, (office, seating, order) in enumerate(states()):
            if index % 2:
                continue
            other = dict(zip(seating, names_for(len(seating), 7)))
            again = [tuple(other[name] for name in names) for names in (seating, order)]
            length = cycle_length(office, seating, order)
            self.assertEqual(cycle_length(office, *again), length)
            if length <= 30:
                self.assertEqual(cycle_of(office, *again), [tuple(other[name] for name in state)
                                                            for state in cycle_of(office, seating, order)])
            one, two = seating[0], seating[-1]
            self.assertEqual(passes_in_cycle(office, *again, other[one], other[two]),
                             passes_in_cycle(office, seating, order, one, two))
            back = seating[::-1]
            self.assertEqual(meet(office, again[0], tuple(other[name] for name in back), again[1]),
                             meet(office, seating, back, order))

    def test_an_order_begun_at_another_person(self):
        for index, (office, seating, order) in enumerate(states()):
            if index % 2 or len(order) < 2:
                continue
            first = 1 + index % (len(order) - 1)
            later = seating
            for name in order[:first]:
                later = after_call(office, later, name)
            begun = order[first:] + order[:first]
            self.assertEqual(cycle_length(office, later, begun), cycle_length(office, seating, order))
            for one, other in [(order[0], order[-1]), (order[-1], order[0]), (seating[0], seating[-1])]:
                self.assertEqual(passes_in_cycle(office, later, begun, one, other),
                                 passes_in_cycle(office, seating, order, one, other))

    def test_one_more_desk_with_a_silent_person(self):
        for index, (office, seating, order) in enumerate(states()):
            if len(seating) == 40 or index % 2:
                continue
            more = (*office, random.Random(index).randint(0, len(office)))
            people = (*seating, 'zzzzzzzz')
            length = cycle_length(office, seating, order)
            self.assertEqual(cycle_length(more, people, order), length)
            if length <= 30:
                self.assertEqual(cycle_of(more, people, order), [(*state, 'zzzzzzzz')
                                                                 for state in cycle_of(office, seating, order)])
            self.assertEqual(passes_in_cycle(more, people, order, seating[0], seating[-1]),
                             passes_in_cycle(office, seating, order, seating[0], seating[-1]))
            self.assertEqual(passes_in_cycle(more, people, order, seating[0], 'zzzzzzzz'), 0)
            back = seating[::-1]
            self.assertEqual(meet(more, people, (*back, 'zzzzzzzz'), order), meet(office, seating, back, order))


class ErrorsTest(unittest.TestCase):

    def parameters(self):
        return [(OFFICE, BAD_OFFICES + odd_values(), NoOffice), (START, BAD_SEATINGS + odd_values(), NoSeating),
                (ORDER, BAD_ORDERS + odd_values(), NoOrder)]

    def name(self, good):
        return (good, ['e'] + BAD_NAMES + odd_values() + ['ab', 'abcd', 0, ('a',), ['a'], START], NoName)

    def test_errors_in_order(self):
        for function in (cycle_length, cycle_of):
            with self.subTest(function.__name__):
                check_each_error(self, function, *self.parameters())
        check_each_error(self, passes_in_cycle, *self.parameters(), self.name('a'), self.name('b'))

    def test_errors_before_the_length_of_the_cycle(self):
        office, names = group_office([12, 17]), names_for(31)
        check_error(self, TooMany, cycle_of, office, names, names)
        check_error(self, NoOrder, cycle_of, office, names, list(names))
        check_error(self, NoSeating, cycle_of, office, names[1:], names)
        check_error(self, NoOffice, cycle_of, list(office), names, names)

    def test_errors_of_meet(self):
        office, seating, order = self.parameters()
        check_each_error(self, meet, office, seating, (('b', 'a', 'c', 'd'), seating[1], NoSeating), order)
        unlike = [('a', 'b', 'c', 'e'), ('e', 'f', 'g', 'h'), ('d', 'c', 'b', 'dd'), ('aa', 'b', 'c', 'd')]
        for other in unlike:
            check_error(self, NotAlike, meet, OFFICE, START, other, ORDER)
            check_error(self, NotAlike, meet, OFFICE, other, START, ('b', 'c') if 'b' in other else ())
            check_error(self, NotAlike, meet, OFFICE, START, other, ())
            # The order is one of the first seating, whatever the second one is.
            for bad in BAD_ORDERS:
                check_error(self, NoOrder, meet, OFFICE, START, other, bad)
        check_error(self, NoOrder, meet, OFFICE, START, ('a', 'b', 'c', 'e'), ('e',))
        check_error(self, NotAlike, meet, OFFICE, START, ('a', 'b', 'c', 'e'), ('d',))

    def test_arguments_are_not_changed(self):
        for order in (ORDER, ('b',), (), ['b'], ('d', ['b'])):
            for office, seating in ((OFFICE, START), ([0, 0, 2], START), (OFFICE, list(START)), (star(4), START)):
                check_unchanged(self, cycle_length, office, seating, order)
                check_unchanged(self, cycle_of, office, seating, order)
                for name in ('b', ['b'], {'b': ['b']}):
                    check_unchanged(self, passes_in_cycle, office, seating, order, name, 'a')
                    check_unchanged(self, passes_in_cycle, office, seating, order, 'a', name)
                for other in (START, ('b', 'a', 'd', 'c'), ['a', 'b', 'c', 'd'], ('a', 'b', 'c', 'e')):
                    check_unchanged(self, meet, office, seating, other, order)


if __name__ == '__main__':
    unittest.main()
