"""Points 8, 9 and 11, and section 8: statuses, recurrent states and obstructions."""

import itertools
import unittest

from deskswaps.errors import NoOffice, NoOrder, NoSeating
from deskswaps.states import is_obstruction, is_recurrent, obstruction, statuses
from tests.model import day_map, left_for_ever, obstructions, small_offices, status_table
from tests.support import (BAD_OFFICES, BAD_ORDERS, BAD_SEATINGS, OFFICE, ORDER, START, EqualToAll, NotShown, chain,
                           check_each_error, check_errors, check_new_list, check_unchanged, names_for, nested,
                           odd_items, odd_values, sample_offices, sample_states, star)

SETTLED = ('c', 'a', 'd', 'b')


def small_states(most):
    """All states of small offices; by their names all orders are alike but for the number of persons."""
    for office in small_offices(most):
        names = 'abcdef'[:len(office) + 1]
        for called in range(len(names) + 1):
            for seating in itertools.permutations(names):
                yield office, seating, tuple(names[:called])


def great_states():
    """Some states of offices of every size."""
    for seed in range(3):
        yield from sample_states(sample_offices(), seed)


def all_states():
    yield from small_states(5)
    yield from great_states()


class StatusesTest(unittest.TestCase):

    def check(self, office, seating, order):
        found = statuses(office, seating, order)
        table = status_table(office, seating, order)
        self.assertIs(type(found), list)
        self.assertEqual(found, [table[desk] for desk in range(len(office) + 1)])

    def test_examples(self):
        self.assertEqual(statuses(OFFICE, START, ORDER), ['unsettled', 'open', 'unsettled', 'open'])
        self.assertEqual(statuses(OFFICE, SETTLED, ORDER), ['center', 'open', 'center', 'open'])

    def test_each_status(self):
        self.assertEqual(statuses((), ('a',), ()), ['silent'])
        self.assertEqual(statuses((), ('a',), ('a',)), ['open'])
        self.assertEqual(statuses((0,), ('a', 'b'), ()), ['silent', 'silent'])
        self.assertEqual(statuses((0,), ('a', 'b'), ('a',)), ['open', 'silent'])
        self.assertEqual(statuses((0,), ('a', 'b'), ('b',)), ['unsettled', 'open'])
        self.assertEqual(statuses((0,), ('a', 'b'), ('a', 'b')), ['unsettled', 'open'])
        self.assertEqual(statuses((0,), ('a', 'b'), ('b', 'a')), ['center', 'open'])
        self.assertEqual(statuses((0, 1), ('a', 'b', 'c'), ('c', 'b', 'a')), ['open', 'center', 'open'])
        self.assertEqual(statuses((0, 0), ('a', 'b', 'c'), ('b', 'a', 'c')), ['unsettled', 'open', 'open'])
        self.assertEqual(statuses((0, 0), ('a', 'b', 'c'), ('c', 'b', 'a')), ['center', 'open', 'open'])
        self.assertEqual(statuses((0, 0), ('a', 'b', 'c'), ('b', 'a')), ['center', 'open', 'silent'])

    def test_all_states(self):
        for office, seating, order in all_states():
            self.check(office, seating, order)

    def test_the_list_is_new(self):
        for order in (ORDER, ('d', 'b'), ()):
            check_new_list(self, statuses, OFFICE, START, order)
        check_new_list(self, statuses, (), ('a',), ('a',))


class IsRecurrentTest(unittest.TestCase):

    def test_examples(self):
        self.assertIs(is_recurrent(OFFICE, SETTLED, ORDER), True)
        self.assertIs(is_recurrent(OFFICE, START, ORDER), False)

    def check_days(self, office, order, names):
        """Check all seatings against those that are left after any number of days, gone day by day."""
        left = left_for_ever(day_map(office, order, names))
        for seating in itertools.permutations(names):
            self.assertIs(is_recurrent(office, seating, order), seating in left)

    def test_up_to_five_desks_day_by_day(self):
        for office in small_offices(5):
            names = 'abcde'[:len(office) + 1]
            for called in range(len(names) + 1):
                with self.subTest((office, called)):
                    self.check_days(office, tuple(names[:called]), names)

    def test_six_desks_day_by_day(self):
        offices = [office for office in small_offices(6) if len(office) == 5]
        for index, office in enumerate(offices):
            for order in [tuple('fbdace'), tuple('badce')[:1 + index % 5]]:
                with self.subTest((office, order)):
                    self.check_days(office, order, 'abcdef')

    def test_no_desk_is_unsettled(self):
        for office, seating, order in great_states():
            expected = 'unsettled' not in status_table(office, seating, order).values()
            self.assertIs(is_recurrent(office, seating, order), expected)

    def test_empty_order(self):
        for office in sample_offices():
            names = names_for(len(office) + 1)
            self.assertIs(is_recurrent(office, names, ()), True)
            self.assertEqual(statuses(office, names, ()), ['silent'] * len(names))
            self.assertIs(obstruction(office, names, ()), None)


class ObstructionTest(unittest.TestCase):

    def check(self, office, seating, order):
        listed = obstructions(office, seating, order)
        found = obstruction(office, seating, order)
        if not listed:
            self.assertIs(found, None)
            return
        self.assertIs(type(found), tuple)
        greatest = max(desk for desk, _ in listed)
        lowers = [lower for desk, lower in listed if desk == greatest]
        if lowers == [None]:
            self.assertEqual(found, (greatest, None))
        else:
            last = max(lowers, key=lambda lower: order.index(seating[lower]))
            self.assertEqual(found, (greatest, last))

    def test_examples(self):
        self.assertEqual(obstruction(OFFICE, START, ORDER), (2, 3))
        self.assertIs(obstruction(OFFICE, SETTLED, ORDER), None)

    def test_the_desk_whose_person_is_called_last(self):
        self.assertEqual(obstruction(star(4), ('a', 'b', 'c', 'd'), ('a', 'b', 'd', 'c')), (0, 2))
        self.assertEqual(obstruction(star(4), ('a', 'b', 'c', 'd'), ('c', 'a', 'd', 'b')), (0, 1))
        self.assertEqual(obstruction(star(4), ('a', 'b', 'c', 'd'), ('c', 'd', 'b')), (0, None))
        self.assertEqual(obstruction(star(4), ('a', 'b', 'c', 'd'), ('b',)), (0, None))

    def test_all_states(self):
        for office, seating, order in all_states():
            self.check(office, seating, order)

    def test_it_is_an_obstruction(self):
        for office, seating, order in great_states():
            found = obstruction(office, seating, order)
            self.assertIs(found is None, is_recurrent(office, seating, order))
            if found is not None:
                self.assertIs(is_obstruction(office, seating, order, found), True)


class IsObstructionTest(unittest.TestCase):

    def check_pairs(self, office, seating, order):
        listed = obstructions(office, seating, order)
        desks = range(len(seating))
        for value in itertools.product(desks, [None, *desks]):
            self.assertIs(is_obstruction(office, seating, order, value), value in listed)

    def test_examples(self):
        self.assertIs(is_obstruction(OFFICE, START, ORDER, (0, 1)), True)
        self.assertIs(is_obstruction(OFFICE, START, ORDER, (2, 3)), True)
        self.assertIs(is_obstruction(OFFICE, START, ORDER, (0, 2)), False)
        self.assertIs(is_obstruction(OFFICE, START, ORDER, (0, None)), False)

    def test_all_pairs_of_small_states(self):
        for office, seating, order in small_states(4):
            self.check_pairs(office, seating, order)

    def test_all_pairs_of_some_greater_states(self):
        for index, (office, seating, order) in enumerate(great_states()):
            if index % 29 == 0 or (len(seating) < 9 and index % 5 == 0):
                self.check_pairs(office, seating, order)

    def test_values_of_other_kinds(self):
        huge = 10 ** 36
        pairs = [(0,), (0, 1, 1), (0, 1, None), [0, 1], [0, None], {0: 1}, {0, 1}, '01', b'01', 0, 1, huge, -huge,
                 (0, 4), (0, -1), (-1, 1), (-4, 1), (4, 1), (0, huge), (huge, 1), (huge, None), (10 ** 5000, 1),
                 (0, True), (False, 1), (False, True), (False, None), (None, None), (None, 1), ('0', '1'), ((0, 1),),
                 (0, EqualToAll()), (EqualToAll(), 1), (EqualToAll(), None), (EqualToAll(), EqualToAll()),
                 (0, NotShown()), (NotShown(), 1), ([0], [1]), (0, [1]), (0, (1,)), (0, []), (0, ()), (nested(39), 1)]
        for order in (ORDER, ('b', 'c', 'd'), ('b',), ()):
            for value in pairs + odd_values():
                self.assertIs(is_obstruction(OFFICE, START, order, value), False)
            for item in odd_items():
                self.assertIs(is_obstruction(OFFICE, START, order, (item, 1)), False)
                self.assertIs(is_obstruction(OFFICE, START, order, (item, None)), False)
                if item is not None:
                    self.assertIs(is_obstruction(OFFICE, START, order, (0, item)), False)
        self.assertIs(is_obstruction(OFFICE, START, ('b',), (0, None)), True)
        self.assertIs(is_obstruction(chain(4), START, ('d', 'b', 'c', 'a'), (True, 2)), False)

    def test_one_that_is_equal_to_a_desk_but_no_desk(self):
        seating, order = ('a', 'b', 'c'), ('a', 'b', 'c')
        self.assertIs(is_obstruction((0, 1), seating, order, (1, 2)), True)
        self.assertIs(is_obstruction((0, 1), seating, order, (True, 2)), False)
        self.assertIs(is_obstruction((0, 0), seating, order, (0, 1)), True)
        self.assertIs(is_obstruction((0, 0), seating, order, (0, True)), False)
        self.assertIs(is_obstruction((0, 0), seating, order, (False, 1)), False)


class ErrorsTest(unittest.TestCase):

    def parameters(self):
        return [(OFFICE, BAD_OFFICES + odd_values(), NoOffice), (START, BAD_SEATINGS + odd_values(), NoSeating),
                (ORDER, BAD_ORDERS + odd_values(), NoOrder)]

    def test_errors_in_order(self):
        for function in (statuses, is_recurrent, obstruction):
            with self.subTest(function.__name__):
                check_each_error(self, function, *self.parameters())
                check_errors(self, function, (OFFICE, BAD_OFFICES, NoOffice), (START, BAD_SEATINGS, NoSeating),
                             (ORDER, BAD_ORDERS, NoOrder))

    def test_errors_of_is_obstruction(self):
        for value in ((0, 1), (0, None), None, (), [], EqualToAll(), NotShown()):
            check_each_error(self, is_obstruction, *self.parameters(), (value, [], None))

    def test_arguments_are_not_changed(self):
        for order in (ORDER, ('b',), (), ['b'], ('d', ['b'])):
            for office, seating in ((OFFICE, START), ([0, 0, 2], START), (OFFICE, list(START))):
                for function in (statuses, is_recurrent, obstruction):
                    check_unchanged(self, function, office, seating, order)
                for value in ((0, 1), [0, 1], ([0], {1: [2]})):
                    check_unchanged(self, is_obstruction, office, seating, order, value)


if __name__ == '__main__':
    unittest.main()
