"""Points 7 and 14, and section 14: reading a seating from desks and costs."""

import collections
import itertools
import math
import random
import unittest

from deskswaps.errors import Impossible, NoCosts, NoDesks, NoOffice, NoOrder, NoSeating, TooMany
from deskswaps.reading import count_with_costs, seating_from_desks
from tests.model import small_offices
from tests.support import (BAD_OFFICES, BAD_ORDERS, BAD_SEATINGS, OFFICE, ORDER, START, EqualToAll, NotShown, binary,
                           chain, check_each_error, check_error, check_errors, check_new_list, check_unchanged, grown,
                           names_for, odd_items, odd_values, orders_for, sample_offices, sample_states, simulate, star,
                           walk_up)


def first_day(office, seating, order):
    """The desks of the calls of the first day."""
    return tuple(desk for _, desk, _ in simulate(office, seating, order, len(order))[0])


def costs_of(office, seating, order):
    return tuple(len(walk_up(office, desk)) - 1 for desk in first_day(office, seating, order))


class SeatingFromDesksTest(unittest.TestCase):

    def check_impossible(self, index, *args):
        with self.assertRaises(Impossible) as caught:
            seating_from_desks(*args)
        self.assertIs(type(caught.exception), Impossible)
        self.assertEqual(caught.exception.index, index)
        self.assertIs(type(caught.exception.index), int)

    def check(self, office, order, desks, starts):
        """Check the answer against the given starts: the desks at the beginning by the desks of the calls."""
        if desks in starts:
            found = seating_from_desks(office, order, desks)
            self.assertIs(type(found), list)
            self.assertEqual(found, starts[desks])
        else:
            left = [index for index in range(len(desks) + 1)
                    if any(other[:index] == desks[:index] for other in starts)]
            self.check_impossible(max(left), office, order, desks)

    def test_example(self):
        self.assertEqual(seating_from_desks(OFFICE, ORDER, (1, 3, 1, 3)), [1, 3, 0, 2])

    def test_all_desks_of_small_offices(self):
        for office in small_offices(4):
            names = tuple('abcd'[:len(office) + 1])
            for called in range(len(names) + 1):
                order = names[:called]
                starts = {}
                for seating in itertools.permutations(names):
                    begin = [seating.index(name) for name in order]
                    self.assertEqual(starts.setdefault(first_day(office, seating, order), begin), begin)
                for desks in itertools.product(range(len(names)), repeat=called):
                    self.check(office, order, desks, starts)

    def test_five_desks(self):
        for office in [chain(5), star(5), binary(5), grown(5, 1)]:
            starts = {first_day(office, seating, tuple('ecadb')): [seating.index(name) for name in 'ecadb']
                      for seating in itertools.permutations('abcde')}
            self.assertEqual(len(starts), 120)
            for desks in itertools.product(range(5), repeat=5):
                self.check(office, tuple('ecadb'), desks, starts)

    def test_offices_of_every_size(self):
        for office, seating, order in sample_states(sample_offices(), 13):
            with self.subTest((office, seating, order)):
                found = seating_from_desks(office, order, first_day(office, seating, order))
                self.assertEqual(found, [seating.index(name) for name in order])

    def test_other_desks_of_offices_of_every_size(self):
        for index, (office, seating, order) in enumerate(sample_states(sample_offices(), 14)):
            chance = random.Random(index)
            desks = list(first_day(office, seating, order))
            for at in chance.sample(range(len(desks)), min(2, len(desks))):
                desks[at] = chance.randrange(len(seating))
            self.check_any(office, seating, order, tuple(desks))
            desks = tuple(chance.randrange(len(seating)) for _ in order)
            self.check_any(office, seating, order, desks)

    def check_any(self, office, names, order, desks):
        """Check the answer by going back from the desks of the last call to the first one."""
        begin, index = [], None
        for at, desk in enumerate(desks):
            # Back through the earlier calls: who sat at a desk before a call of another one there?
            for earlier in reversed(desks[:at]):
                upper = walk_up(office, earlier)[:2][-1]
                desk = {earlier: upper, upper: earlier}.get(desk, desk)
            if desk in begin:
                index = at
                break
            begin.append(desk)
        if index is not None:
            self.check_impossible(index, office, order, desks)
            return
        self.assertEqual(seating_from_desks(office, order, desks), begin)
        # An arrangement with these desks at the beginning has these calls.
        rest = [name for name in names if name not in order]
        sitting = dict(zip(begin, order))
        seating = tuple(sitting[desk] if desk in sitting else rest.pop() for desk in range(len(names)))
        self.assertEqual(first_day(office, seating, order), desks)

    def test_impossible(self):
        self.check_impossible(1, OFFICE, ORDER, (0, 0, 0, 0))
        self.check_impossible(1, OFFICE, ('a', 'b'), (1, 0))
        self.check_impossible(2, OFFICE, ('b', 'a', 'c'), (3, 3, 2))
        self.check_impossible(3, star(4), ('a', 'b', 'c', 'd'), (1, 2, 3, 0))
        self.assertEqual(seating_from_desks(OFFICE, ('a', 'b'), (3, 3)), [3, 2])

    def test_no_persons(self):
        for office in sample_offices():
            self.assertEqual(seating_from_desks(office, (), ()), [])

    def test_names_do_not_matter(self):
        for index, (office, seating, order) in enumerate(sample_states(sample_offices()[:80], 15)):
            desks = first_day(office, seating, order)
            again = names_for(len(order), index + 3)
            self.assertEqual(seating_from_desks(office, again, desks), seating_from_desks(office, order, desks))

    def test_the_list_is_new(self):
        check_new_list(self, seating_from_desks, OFFICE, ORDER, (1, 3, 1, 3))
        check_new_list(self, seating_from_desks, OFFICE, (), ())


class CountWithCostsTest(unittest.TestCase):

    def check_all(self, office, names, order, chance):
        """Check all costs that occur, and some that do not, against all seatings."""
        counts = collections.Counter(costs_of(office, seating, order)
                                     for seating in itertools.permutations(names))
        for costs, expected in counts.items():
            found = count_with_costs(office, names, order, costs)
            self.assertIs(type(found), int)
            self.assertEqual(found, expected)
        for _ in range(6):
            costs = tuple(chance.randrange(len(names) + 1) for _ in order)
            self.assertEqual(count_with_costs(office, names, order, costs), counts[costs])
        self.assertEqual(sum(counts.values()), math.factorial(len(names)))

    def test_example(self):
        self.assertEqual(count_with_costs(OFFICE, START, ORDER, (0, 1, 1, 2)), 2)

    def test_up_to_five_desks(self):
        chance = random.Random(1)
        for office in small_offices(5):
            names = names_for(len(office) + 1, len(office))
            orders = orders_for(names, sum(office)) if len(office) == 4 else [names[:k] for k in range(len(names) + 1)]
            for order in orders:
                self.check_all(office, names, order, chance)

    def test_six_and_seven_desks(self):
        chance = random.Random(2)
        for office in [chain(6), star(6), grown(6, 3), grown(7, 1)]:
            names = names_for(len(office) + 1)
            for order in orders_for(names)[1:3]:
                self.check_all(office, names, order, chance)
        for office in [chain(7), star(7), binary(7)]:
            names = names_for(7)
            for order in (names, names[2:6]):
                for costs in {costs_of(office, tuple(chance.sample(names, 7)), order) for _ in range(2)}:
                    expected = sum(costs == costs_of(office, seating, order)
                                   for seating in itertools.permutations(names))
                    self.assertEqual(count_with_costs(office, names, order, costs), expected)

    def test_all_costs_of_seven_desks_add_up(self):
        for office in [chain(7), star(7), binary(7), grown(7, 2)]:
            names = names_for(7)
            deepest = max(len(walk_up(office, desk)) for desk in range(7))
            for called in (0, 1, 2, 4):
                total = sum(count_with_costs(office, names, names[:called], costs)
                            for costs in itertools.product(range(deepest), repeat=called))
                self.assertEqual(total, 5040)

    def test_another_arrangement_makes_no_difference(self):
        for names in itertools.permutations(START):
            self.assertEqual(count_with_costs(OFFICE, names, ORDER, (0, 1, 1, 2)), 2)
            self.assertEqual(count_with_costs(OFFICE, names, ('d', 'b'), (2, 1)),
                             count_with_costs(OFFICE, START, ('d', 'b'), (2, 1)))

    def test_other_names_make_no_difference(self):
        for names in (('x', 'y', 'z', 'w'), names_for(4, 2)):
            for called in range(5):
                for costs in itertools.product(range(3), repeat=called):
                    self.assertEqual(count_with_costs(OFFICE, names, names[:called], costs),
                                     count_with_costs(OFFICE, START, ORDER[:called], costs))

    def test_costs_that_do_not_occur(self):
        for costs in ((3, 0, 0, 0), (0, 0, 0, 3), (10 ** 36,) * 4, (10 ** 60, 1, 1, 1), (2, 2, 2, 2)):
            found = count_with_costs(OFFICE, START, ORDER, costs)
            expected = sum(costs == costs_of(OFFICE, seating, ORDER) for seating in itertools.permutations(START))
            self.assertEqual((type(found), found), (int, expected))
        self.assertEqual(count_with_costs(OFFICE, START, ('a',), (3,)), 0)
        self.assertEqual(count_with_costs((), ('a',), ('a',), (1,)), 0)

    def test_empty_order(self):
        for many in range(1, 8):
            self.assertEqual(count_with_costs(chain(many), names_for(many), (), ()), math.factorial(many))


class ErrorsTest(unittest.TestCase):

    BAD_PERSONS = [('a', 'a'), ('a', 'b', 'c', 'd', 'e'), ['a', 'b'], [], 'a', 'abcd', '', None, ('A',), ('',), (0,),
                   (['a'],), {}, (None,), (EqualToAll(),), NotShown(), ('a', 'b', 'c', 1), ('a', 'abcdefghi')]
    BAD_DESKS = [(), (1, 3, 1), (1, 3, 1, 3, 0), (1, 3, 1, 4), (-1, 3, 1, 3), (True, 3, 1, 3), (1, 3, False, 3),
                 [1, 3, 1, 3], '1313', None, (1, 3, 1, '3'), (1, 3, 1, (3,)), (1, 3, 1, None), (1, 3, 1, 10 ** 36),
                 (1, 3, 1, [3]), {1: 3}, 4, (EqualToAll(),) * 4, (NotShown(),) * 4, NotShown()]
    BAD_COSTS = [(), (0, 1, 1), (0, 1, 1, 2, 0), (0, 1, 1, -1), (-1, 1, 1, 2), (True, 1, 1, 2), (0, 1, False, 2),
                 [0, 1, 1, 2], '0112', None, (0, 1, 1, '2'), (0, 1, 1, (2,)), (0, 1, 1, None), (0, 1, 1, -10 ** 36),
                 (0, 1, 1, [2]), {0: 1}, 4, (EqualToAll(),) * 4, (NotShown(),) * 4, NotShown()]

    def office(self):
        return (OFFICE, BAD_OFFICES + odd_values(), NoOffice)

    def test_seating_from_desks(self):
        bad = self.BAD_DESKS + odd_values() + [(item, 3, 1, 3) for item in odd_items()]
        # An order of fewer persons is no error of the order.
        check_each_error(self, seating_from_desks, self.office(), (ORDER, self.BAD_PERSONS + odd_values(), NoOrder),
                         ((1, 3, 1, 3), bad, NoDesks))
        check_errors(self, seating_from_desks, (OFFICE, BAD_OFFICES, NoOffice), (ORDER, self.BAD_PERSONS, NoOrder),
                     ((1, 3, 1, 3), bad[:12], NoDesks))
        for order in ((), ('e',), ('abcdefgh', 'x'), ('d', 'c', 'b')):
            check_error(self, NoDesks, seating_from_desks, OFFICE, order, (1, 3, 1, 3))
            self.assertEqual(len(seating_from_desks(OFFICE, order, (1, 2, 3)[:len(order)])), len(order))

    def test_impossible_comes_last(self):
        with self.assertRaises(Impossible) as caught:
            seating_from_desks(OFFICE, ORDER, (0, 0, 0, 0))
        self.assertEqual(caught.exception.index, 1)
        check_error(self, NoDesks, seating_from_desks, OFFICE, ORDER, (0, 0, 0, 4))
        check_error(self, NoOrder, seating_from_desks, OFFICE, ('a', 'a', 'b', 'c'), (0, 0, 0, 0))
        check_error(self, NoOffice, seating_from_desks, [0, 0, 2], ORDER, (0, 0, 0, 0))

    def test_count_with_costs(self):
        seating = (START, BAD_SEATINGS + odd_values(), NoSeating)
        bad = self.BAD_COSTS + odd_values() + [(item, 1, 1, 2) for item in odd_items()]
        check_each_error(self, count_with_costs, self.office(), seating, (ORDER, BAD_ORDERS + odd_values(), NoOrder),
                         ((0, 1, 1, 2), bad, NoCosts))

    def test_more_than_seven_desks(self):
        for many in range(8, 41):
            office, names = grown(many, 2), names_for(many)
            for order in (names, names[:3], ()):
                with self.assertRaises(TooMany) as caught:
                    count_with_costs(office, names, order, (0,) * len(order))
                self.assertIs(type(caught.exception), TooMany)
                self.assertEqual(caught.exception.size, many)
                check_error(self, NoCosts, count_with_costs, office, names, order, (0,) * len(order) + (1,))
                check_error(self, NoCosts, count_with_costs, office, names, order, [0] * len(order))
            check_error(self, NoOrder, count_with_costs, office, names, list(names), None)
            check_error(self, NoSeating, count_with_costs, office, names[1:], list(names), None)
            check_error(self, NoOffice, count_with_costs, list(office), names[1:], list(names), None)

    def test_arguments_are_not_changed(self):
        for office in (OFFICE, [0, 0, 2], star(9)):
            for order in (ORDER, ('b',), (), ['b'], ('d', ['b'])):
                for desks in ((1, 3, 1, 3), (0, 0, 0, 0), (1,), [1], ([1],), {1: [1]}):
                    check_unchanged(self, seating_from_desks, office, order, desks)
                    check_unchanged(self, count_with_costs, office, START, order, desks)
                    check_unchanged(self, count_with_costs, office, list(START), order, desks)


if __name__ == '__main__':
    unittest.main()
