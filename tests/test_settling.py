"""Points 2, 7 and 8, and section 9: settling, and the groups into which an office falls."""

import itertools
import random
import unittest

from deskswaps.errors import NoOffice, NoOrder, NoSeating
from deskswaps.settling import groups_of, settled, settling_day
from tests.model import Orbit, day_map, groups_by_table, left_for_ever, small_offices
from tests.support import (BAD_OFFICES, BAD_ORDERS, BAD_SEATINGS, OFFICE, ORDER, START, Persons, chain,
                           check_each_error, check_errors, check_unchanged, names_for, odd_values, sample_offices,
                           sample_states, simulate, star)

SETTLED = ('c', 'a', 'd', 'b')


def states():
    return sample_states(sample_offices(), 3)


def day_by_day(office, seating, order, days):
    """The states at the beginning of these days and after the last of them."""
    seatings = simulate(office, seating, order, days * len(order))[1]
    return [seatings[day * len(order)] for day in range(days + 1)]


class SettlingTest(unittest.TestCase):

    def check_all(self, office, order, names):
        """Check all seatings against those that are left after any number of days, gone day by day."""
        following = day_map(office, order, names)
        left = left_for_ever(following)
        for seating in itertools.permutations(names):
            days, now = 0, seating
            while now not in left:
                days, now = days + 1, following[now]
            self.assertEqual(settling_day(office, seating, order), days)
            self.assertEqual(settled(office, seating, order), now)
            self.assertLessEqual(days, len(seating))

    def test_examples(self):
        self.assertEqual(settling_day(OFFICE, START, ORDER), 1)
        self.assertEqual(settled(OFFICE, START, ORDER), SETTLED)

    def test_up_to_five_desks(self):
        for office in small_offices(5):
            names = 'abcde'[:len(office) + 1]
            for called in range(len(names) + 1):
                with self.subTest((office, called)):
                    self.check_all(office, tuple(names[:called]), names)

    def test_six_desks(self):
        offices = [office for office in small_offices(6) if len(office) == 5]
        for index, office in enumerate(offices):
            for order in [tuple('fbdace'), tuple('badce')[:1 + index % 5]]:
                with self.subTest((office, order)):
                    self.check_all(office, order, 'abcdef')

    def test_offices_of_every_size(self):
        for office, seating, order in states():
            with self.subTest((office, seating, order)):
                orbit = Orbit(office, seating, order)
                found = settling_day(office, seating, order)
                self.assertIs(type(found), int)
                self.assertEqual(found, orbit.first)
                self.assertLessEqual(found, len(seating))
                found = settled(office, seating, order)
                self.assertIs(type(found), tuple)
                self.assertEqual(found, orbit.states[orbit.first])

    def test_a_recurrent_state_is_settled(self):
        for office, seating, order in states():
            state = settled(office, seating, order)
            self.assertEqual(settling_day(office, state, order), 0)
            self.assertEqual(settled(office, state, order), state)

    def test_empty_order(self):
        for office in sample_offices():
            names = names_for(len(office) + 1)
            self.assertEqual(settling_day(office, names, ()), 0)
            self.assertEqual(settled(office, names, ()), names)
            self.assertEqual(groups_of(office, names, ()), [])


class GroupsTest(unittest.TestCase):

    def test_example(self):
        self.assertEqual(groups_of(OFFICE, START, ORDER), [(0, [1], ['a', 'c']), (2, [3], ['b', 'd'])])
        self.assertEqual(groups_of(OFFICE, SETTLED, ORDER), [(0, [1], ['a', 'c']), (2, [3], ['b', 'd'])])

    def test_names_stand_in_the_order_of_the_calls(self):
        self.assertEqual(groups_of(star(4), ('b', 'c', 'a', 'd'), ('c', 'd', 'a', 'b')),
                         [(0, [1, 2, 3], ['c', 'd', 'a', 'b'])])
        self.assertEqual(groups_of(star(4), ('b', 'c', 'a', 'd'), ('c', 'a', 'b')), [(0, [1, 2], ['c', 'a', 'b'])])
        self.assertEqual(groups_of(chain(3), ('a', 'b', 'c'), ('c', 'b', 'a')), [(1, [2], ['c', 'b'])])
        self.assertEqual(groups_of((), ('a',), ('a',)), [])

    def test_offices_of_every_size(self):
        for office, seating, order in states():
            with self.subTest((office, seating, order)):
                found = groups_of(office, seating, order)
                orbit = Orbit(office, seating, order)
                self.assertEqual(found, groups_by_table(office, orbit.states[orbit.first], order))
                centers = [center for center, _, _ in found]
                self.assertEqual(centers, sorted(set(centers)))
                for center, lower, names in found:
                    self.assertEqual((type(center), type(lower), type(names)), (int, list, list))
                    self.assertEqual(lower, sorted(set(lower)))
                    self.assertTrue(lower)
                    self.assertEqual([office[desk - 1] for desk in lower], [center] * len(lower))
                    self.assertEqual(len(names), len(lower) + 1)
                    self.assertEqual([name for name in order if name in names], names)

    def test_no_desk_and_no_person_is_in_two_groups(self):
        for office, seating, order in states():
            found = groups_of(office, seating, order)
            desks = [desk for center, lower, _ in found for desk in [center] + lower]
            people = [name for _, _, names in found for name in names]
            self.assertEqual(len(set(desks)), len(desks))
            self.assertEqual(len(set(people)), len(people))
            # All called persons but one that is alone at desk 0 belong to a group.
            alone = [settled(office, seating, order)[0]]
            self.assertIn(sorted(set(order) - set(people)), ([], alone))

    def test_nobody_leaves_a_group(self):
        for index, (office, seating, order) in enumerate(states()):
            if index % 3:
                continue
            persons = Persons(office, settled(office, seating, order))
            groups = groups_of(office, seating, order)
            for name in order * (1 + max([len(lower) for _, lower, _ in groups], default=0)):
                persons.call(name)
                for center, lower, names in groups:
                    self.assertEqual({persons.desks[one] for one in names}, {center, *lower})

    def test_a_group_repeats_after_as_many_days_as_it_has_lower_desks(self):
        for office, seating, order in states():
            groups = groups_of(office, seating, order)
            days = max([len(lower) for _, lower, _ in groups], default=1)
            rows = day_by_day(office, settled(office, seating, order), order, 2 * days)
            for center, lower, _ in groups:
                parts = [[state[desk] for desk in [center] + lower] for state in rows]
                many = len(lower)
                self.assertEqual([day for day in range(1, len(rows)) if parts[day] == parts[0]],
                                 list(range(many, len(rows), many)))
            free = set(range(len(seating))) - {desk for center, lower, _ in groups for desk in [center] + lower}
            for state in rows:
                self.assertEqual([state[desk] for desk in free], [rows[0][desk] for desk in free])

    def test_after_as_many_days_as_there_are_desks(self):
        for office, seating, order in states():
            later = simulate(office, seating, order, len(seating) * len(order))[1][-1]
            self.assertEqual(settling_day(office, later, order), 0)
            self.assertEqual(groups_of(office, later, order), groups_of(office, seating, order))

    def test_the_state_of_the_next_day(self):
        for office, seating, order in states():
            state = settled(office, seating, order)
            for later in day_by_day(office, seating, order, 1) + day_by_day(office, state, order, 2):
                self.assertEqual(groups_of(office, later, order), groups_of(office, seating, order))

    def test_other_names(self):
        for office, seating, order in states():
            other = dict(zip(seating, names_for(len(seating), 7)))
            again = [tuple(other[name] for name in names) for names in (seating, order)]
            self.assertEqual(settling_day(office, *again), settling_day(office, seating, order))
            self.assertEqual(settled(office, *again), tuple(other[name] for name in settled(office, seating, order)))
            self.assertEqual(groups_of(office, *again), [(center, lower, [other[name] for name in names])
                                                         for center, lower, names in groups_of(office, seating, order)])

    def test_one_more_desk_with_a_silent_person(self):
        for seed, (office, seating, order) in enumerate(states()):
            if len(seating) == 40 or seed % 2:
                continue
            more = (*office, random.Random(seed).randint(0, len(office)))
            people = (*seating, 'zzzzzzzz')
            self.assertEqual(settling_day(more, people, order), settling_day(office, seating, order))
            self.assertEqual(settled(more, people, order), (*settled(office, seating, order), 'zzzzzzzz'))
            self.assertEqual(groups_of(more, people, order), groups_of(office, seating, order))

    def test_the_list_is_new_down_to_its_parts(self):
        for args in ((OFFICE, START, ORDER), (star(4), ('b', 'c', 'a', 'd'), ('c', 'd', 'a', 'b')), ((), ('a',), ())):
            first, second = groups_of(*args), groups_of(*args)
            before = [(center, list(lower), list(names)) for center, lower, names in first]
            self.assertEqual((type(first), first), (list, second))
            lists = [first, second] + [part for group in first + second for part in group[1:]]
            self.assertEqual(len({id(part) for part in lists}), len(lists))
            for part in lists:
                part.append(99)
            self.assertEqual(groups_of(*args), before)


class ErrorsTest(unittest.TestCase):

    def test_errors_in_order(self):
        for function in (settling_day, settled, groups_of):
            with self.subTest(function.__name__):
                check_each_error(self, function, (OFFICE, BAD_OFFICES + odd_values(), NoOffice),
                                 (START, BAD_SEATINGS + odd_values(), NoSeating),
                                 (ORDER, BAD_ORDERS + odd_values(), NoOrder))
                check_errors(self, function, (OFFICE, BAD_OFFICES, NoOffice), (START, BAD_SEATINGS, NoSeating),
                             (ORDER, BAD_ORDERS, NoOrder))

    def test_arguments_are_not_changed(self):
        for order in (ORDER, ('b',), (), ['b'], ('d', ['b'])):
            for office, seating in ((OFFICE, START), ([0, 0, 2], START), (OFFICE, list(START))):
                for function in (settling_day, settled, groups_of):
                    check_unchanged(self, function, office, seating, order)


if __name__ == '__main__':
    unittest.main()
