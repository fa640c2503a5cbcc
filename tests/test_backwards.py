"""Points 7 and 8, and section 13: back in time."""

import collections
import itertools
import random
import unittest

from deskswaps.backwards import before_call, count_before, days_back
from deskswaps.calls import after_call
from deskswaps.errors import NoCalls, NoName, NoOffice, NoOrder, NoSeating, TooMany
from tests.model import day_map, left_for_ever, small_offices
from tests.support import (BAD_CALLS, BAD_NAMES, BAD_OFFICES, BAD_ORDERS, BAD_SEATINGS, OFFICE, ORDER, START, Persons,
                           chain, check_each_error, check_error, check_errors, check_new_list, check_unchanged, grown,
                           names_for, odd_values, sample_offices, sample_states, simulate, star)

SETTLED = ('c', 'a', 'd', 'b')


def orders_of(names):
    """For each number of called persons an order."""
    return [tuple(names[::-1][:called]) for called in range(len(names) + 1)]


def led_to_by(office, seating, name, other):
    """Whether a call of the person leads from the seating to the other one."""
    persons = Persons(office, seating)
    persons.call(name)
    return persons.seating() == other


class BeforeCallTest(unittest.TestCase):

    def test_example(self):
        self.assertEqual(before_call(OFFICE, SETTLED, 'd'), [('c', 'a', 'b', 'd')])

    def test_all_seatings_of_small_offices(self):
        for office in small_offices(4):
            names = 'dbca'[:len(office) + 1]
            for name in names:
                found = {seating: [] for seating in itertools.permutations(names)}
                for seating in sorted(found):
                    persons = Persons(office, seating)
                    persons.call(name)
                    found[persons.seating()].append(seating)
                for seating, expected in found.items():
                    self.assertEqual(before_call(office, seating, name), expected)

    def test_offices_of_every_size(self):
        for index, office in enumerate(sample_offices()):
            names = names_for(len(office) + 1, index)
            chance = random.Random(index)
            for name in dict.fromkeys([names[0], names[-1], chance.choice(names)]):
                found = before_call(office, names, name)
                self.assertIs(type(found), list)
                self.assertTrue(all(type(seating) is tuple for seating in found))
                desk = names.index(name)
                # One for each desk directly below the person, and the seating itself at desk 0.
                self.assertEqual(len(found), office.count(desk) + (desk == 0))
                self.assertEqual(found, sorted(set(found)))
                self.assertIs(names in found, desk == 0)
                for seating in found:
                    self.assertTrue(led_to_by(office, seating, name, names))
                    if seating != names:
                        self.assertEqual(office[seating.index(name) - 1], desk)

    def test_the_seating_before_is_among_those_that_are_found(self):
        for index, office in enumerate(sample_offices()):
            names = names_for(len(office) + 1, index)
            for name in names[:4]:
                self.assertIn(names, before_call(office, after_call(office, names, name), name))

    def test_ascending(self):
        self.assertEqual(before_call(star(4), ('b', 'd', 'a', 'c'), 'b'),
                         [('a', 'd', 'b', 'c'), ('b', 'd', 'a', 'c'), ('c', 'd', 'a', 'b'), ('d', 'b', 'a', 'c')])
        self.assertEqual(before_call(star(4), ('b', 'd', 'a', 'c'), 'd'), [])
        self.assertEqual(before_call((), ('a',), 'a'), [('a',)])

    def test_other_names(self):
        for index, office in enumerate(sample_offices()):
            names, again = names_for(len(office) + 1, index), names_for(len(office) + 1, index + 1)
            other = dict(zip(names, again))
            name = names[index % len(names)]
            renamed = [tuple(other[one] for one in seating) for seating in before_call(office, names, name)]
            self.assertEqual(before_call(office, again, other[name]), sorted(renamed))

    def test_one_more_desk_with_another_person(self):
        for index, office in enumerate(sample_offices()):
            if len(office) < 39:
                names = names_for(len(office) + 1, index)
                desk = index % len(names)
                found = before_call((*office, desk), (*names, 'zzzzzzzz'), names[desk])
                # A new desk below the person is one more from which it may have come.
                added = [seating for seating in found if seating[-1] != 'zzzzzzzz']
                self.assertEqual(added, [(*names[:desk], 'zzzzzzzz', *names[desk + 1:], names[desk])])
                self.assertEqual([seating[:-1] for seating in found if seating[-1] == 'zzzzzzzz'],
                                 before_call(office, names, names[desk]))

    def test_the_list_is_new(self):
        for name in START:
            check_new_list(self, before_call, OFFICE, START, name)
        check_new_list(self, before_call, (), ('a',), 'a')


class CountBeforeTest(unittest.TestCase):

    def check(self, office, order, names, numbers):
        """Check all seatings against all seatings gone forwards."""
        for calls in numbers:
            # The first of these calls is one of a day that may have begun before.
            first = -calls % len(order) if order else 0
            names_called = list(itertools.islice(itertools.cycle(order), first, first + calls)) if order else []
            counts = collections.Counter()
            for seating in itertools.permutations(names):
                persons = Persons(office, seating)
                for name in names_called:
                    persons.call(name)
                counts[persons.seating()] += 1
            for seating in itertools.permutations(names):
                self.assertEqual(count_before(office, seating, order, calls), counts[seating])

    def test_example(self):
        self.assertEqual(count_before(OFFICE, SETTLED, ORDER, 4), 6)

    def test_up_to_four_desks(self):
        for office in small_offices(4):
            names = 'abcd'[:len(office) + 1]
            for order in orders_of(names):
                self.check(office, order, names, [0, 1, 2, 3, 4, 5, 7, 13])

    def test_every_number_of_calls(self):
        for office in [(), (0,), (0, 1), (0, 0)]:
            names = 'abc'[:len(office) + 1]
            for order in orders_of(names):
                self.check(office, order, names, range(61))

    def test_five_and_six_desks(self):
        for many in (5, 6):
            names = 'abcdef'[:many]
            for seed, office in enumerate([chain(many), star(many), grown(many, 1), grown(many, 4)]):
                self.check(office, orders_of(names)[1 + seed], names, [1, 3, 8, 60])
                self.check(office, orders_of(names)[-1], names, [2, 5, 6, 17])

    def test_no_calls(self):
        for office in small_offices(5):
            names = tuple('abcde'[:len(office) + 1])
            self.assertEqual(count_before(office, names, names, 0), 1)
            for calls in (0, 1, 59, 60):
                self.assertEqual(count_before(office, names, (), calls), 1)

    def test_one_call_is_before_call(self):
        for index, office in enumerate(small_offices(6)):
            names = tuple('abcdef'[:len(office) + 1])
            for name in names:
                order = (names[index % len(names)], name) if names[index % len(names)] != name else (name,)
                found = count_before(office, names, order, 1)
                self.assertIs(type(found), int)
                self.assertEqual(found, len(before_call(office, names, name)))

    def test_all_seatings_lead_somewhere(self):
        for office in (OFFICE, chain(4), star(4)):
            for calls in (0, 1, 6, 60):
                counts = [count_before(office, seating, ('b', 'd', 'a'), calls)
                          for seating in itertools.permutations('abcd')]
                self.assertEqual(sum(counts), 24)

    def test_an_order_begun_at_another_person(self):
        for office in (OFFICE, chain(4), star(4), (0, 1, 1)):
            for seating in itertools.permutations('abcd'):
                # The last call of a day that begins at c is one of b.
                before = sum(count_before(office, earlier, ('a', 'b', 'c', 'd'), 4)
                             for earlier in itertools.permutations('abcd')
                             if simulate(office, earlier, ('a', 'b'), 2)[1][-1] == seating)
                self.assertEqual(count_before(office, seating, ('c', 'd', 'a', 'b'), 6), before)


class DaysBackTest(unittest.TestCase):

    def check(self, office, order, names):
        """Check all seatings against all seatings, gone day by day."""
        following = day_map(office, order, names)
        left = left_for_ever(following)
        expected = {seating: 0 for seating in following}
        now = set(following)
        for day in range(1, len(names) + 2):
            now = {following[seating] for seating in now}
            expected.update(dict.fromkeys(now, day))
        self.assertEqual(now, left)
        for seating in following:
            found = days_back(office, seating, order)
            if seating in left:
                self.assertIs(found, None)
            else:
                self.assertIs(type(found), int)
                self.assertEqual(found, expected[seating])

    def test_example(self):
        self.assertEqual(days_back(OFFICE, START, ORDER), 0)

    def test_up_to_five_desks(self):
        for office in small_offices(5):
            names = 'abcde'[:len(office) + 1]
            for order in orders_of(names):
                self.check(office, order, names)

    def test_six_desks(self):
        for index, office in enumerate([chain(6), star(6), grown(6, 1), grown(6, 2), (0, 1, 2, 3, 3), (0, 0, 1, 2, 3)]):
            self.check(office, tuple('fbdace'), 'abcdef')
            self.check(office, tuple('fbdace')[:1 + index % 5], 'abcdef')

    def test_some_states_are_several_days_old(self):
        numbers = {days_back(chain(6), seating, tuple('abcdef')) for seating in itertools.permutations('abcdef')}
        self.assertLessEqual({None, 0, 1}, numbers)

    def test_empty_order(self):
        for office in small_offices(5):
            self.assertIs(days_back(office, tuple('abcde'[:len(office) + 1]), ()), None)

    def test_other_names(self):
        other = dict(zip('abcd', ('x', 'ba', 'a', 'c')))
        for office in small_offices(4):
            if len(office) == 3:
                for seating in itertools.permutations('abcd'):
                    for order in (ORDER, ('d', 'b')):
                        again = [tuple(other[name] for name in names) for names in (seating, order)]
                        self.assertEqual(days_back(office, *again), days_back(office, seating, order))
                        for calls in (1, 4, 11):
                            self.assertEqual(count_before(office, *again, calls),
                                             count_before(office, seating, order, calls))


class ErrorsTest(unittest.TestCase):

    def parameters(self):
        return [(OFFICE, BAD_OFFICES + odd_values(), NoOffice), (START, BAD_SEATINGS + odd_values(), NoSeating),
                (ORDER, BAD_ORDERS + odd_values(), NoOrder)]

    def test_before_call(self):
        office, seating, _ = self.parameters()
        bad = ['e'] + BAD_NAMES + odd_values() + ['ab', 'abcd', 0, 1, ('a',), ['a'], START]
        check_each_error(self, before_call, office, seating, ('a', bad, NoName))
        check_errors(self, before_call, (OFFICE, BAD_OFFICES, NoOffice), (START, BAD_SEATINGS, NoSeating),
                     ('a', bad[:5], NoName))

    def test_count_before(self):
        check_each_error(self, count_before, *self.parameters(), (60, [61] + BAD_CALLS + odd_values(), NoCalls))

    def test_days_back(self):
        check_each_error(self, days_back, *self.parameters())

    def check_too_many(self, many, function, *args):
        with self.assertRaises(TooMany) as caught:
            function(*args)
        self.assertIs(type(caught.exception), TooMany)
        self.assertEqual(caught.exception.size, many)

    def test_more_than_six_desks(self):
        for many in range(7, 41):
            office, names = grown(many, 2), names_for(many)
            for order in (names, names[:3], ()):
                for calls in (0, 1, 60):
                    self.check_too_many(many, count_before, office, names, order, calls)
                self.check_too_many(many, days_back, office, names, order)
            for calls in (61, -1, True, None, [1]):
                check_error(self, NoCalls, count_before, office, names, names, calls)
            check_error(self, NoOrder, count_before, office, names, list(names), 61)
            check_error(self, NoOrder, days_back, office, names, list(names))
            check_error(self, NoSeating, count_before, office, names[1:], list(names), 61)
            check_error(self, NoSeating, days_back, office, names[1:], list(names))
            check_error(self, NoOffice, count_before, list(office), names[1:], list(names), 61)
            check_error(self, NoOffice, days_back, list(office), names[1:], list(names))

    def test_samples_raise_nothing_or_too_many(self):
        for office, seating, order in sample_states(sample_offices()[:60], 12):
            if len(seating) > 6:
                check_error(self, TooMany, count_before, office, seating, order, 7)
                check_error(self, TooMany, days_back, office, seating, order)
            else:
                self.assertGreaterEqual(count_before(office, seating, order, 7), 0)
                self.assertNotEqual(days_back(office, seating, order), -1)

    def test_arguments_are_not_changed(self):
        for office, seating in ((OFFICE, START), ([0, 0, 2], START), (OFFICE, list(START)), (star(9), START)):
            for name in ('b', ['b'], {'b': ['b']}):
                check_unchanged(self, before_call, office, seating, name)
            for order in (ORDER, ('b',), (), ['b'], ('d', ['b'])):
                check_unchanged(self, days_back, office, seating, order)
                for calls in (4, [4], {4: [4]}):
                    check_unchanged(self, count_before, office, seating, order, calls)


if __name__ == '__main__':
    unittest.main()
