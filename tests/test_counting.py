"""Points 2, 7 and 12, and section 12: counting states, and the numbers of the recurrent ones."""

import fractions
import itertools
import math
import random
import unittest

from deskswaps.calls import run
from deskswaps.counting import count_by_passes, count_recurrent, nth_recurrent, recurrent_index
from deskswaps.errors import NoNumber, NoOffice, NoOrder, NoSeating, NotAlike, NotRecurrent, TooMany
from deskswaps.groups import recurrent_count
from deskswaps.settling import settled
from tests.model import day_map, left_for_ever, small_offices, status_table
from tests.support import (BAD_OFFICES, BAD_SEATINGS, OFFICE, ORDER, EqualToAll, NotShown, binary, chain,
                           check_each_error, check_error, check_errors, check_new_list, check_unchanged,
                           group_office, grown, names_for, odd_items, odd_values, sample_offices, simulate, star)

SETTLED = ('c', 'a', 'd', 'b')


def trees():
    """Offices of every size, of more kinds than the samples."""
    yield from sample_offices()
    for many in range(7, 41):
        for seed in range(20, 23):
            yield grown(many, seed)
    yield from (group_office(numbers) for numbers in ([3, 5, 7, 8, 11], [1] * 20, [6, 6, 6], [20, 1, 2]))


def count_by_choice(office, silent):
    """Both factorials divided by the group sizes, over all choices of the silent desks."""
    many, total = len(office) + 1, 0
    for chosen in itertools.combinations(range(many), silent):
        opened, product = {}, 1
        for desk in reversed(range(many)):
            lower = [other for other in range(desk + 1, many) if office[other - 1] == desk and opened[other]]
            if lower and desk in chosen:
                break
            opened[desk] = not lower and desk not in chosen
            product *= len(lower) + 1
        else:
            total += math.factorial(silent) * math.factorial(many - silent) // product
    return total


def sums(office):
    """For each number of silent desks the sum of 1 divided by the group sizes, over all choices that fit."""
    below = {desk: [] for desk in range(len(office) + 1)}
    for desk, upper in enumerate(office, 1):
        below[upper].append(desk)

    def parts(desk):
        # Polynomials in the number of silent desks by the number of open desks below.
        rows = [[fractions.Fraction(1)]]
        for lower in below[desk]:
            opened, closed = parts(lower)
            rows = [add(times(rows[k], closed) if k < len(rows) else [], times(rows[k - 1], opened) if k else [])
                    for k in range(len(rows) + 1)]
        shut = [0] + rows[0]
        for many, row in enumerate(rows[1:], 2):
            shut = add(shut, [fractions.Fraction(value, many) for value in row])
        return rows[0], shut

    return add(*parts(0))


def add(one, other):
    return [sum(pair) for pair in itertools.zip_longest(one, other, fillvalue=0)]


def times(one, other):
    found = [0] * (len(one) + len(other))
    for i, a in enumerate(one):
        for j, b in enumerate(other):
            found[i + j] += a * b
    return found


class CountRecurrentTest(unittest.TestCase):

    def test_example(self):
        self.assertEqual(count_recurrent((0, 1), 1), 2)

    def test_small_offices_day_by_day(self):
        for office in small_offices(5):
            names = 'abcde'[:len(office) + 1]
            for silent in range(len(names) + 1):
                with self.subTest((office, silent)):
                    order = tuple(names[silent:][::-1])
                    left = left_for_ever(day_map(office, order, names))
                    found = count_recurrent(office, silent)
                    self.assertIs(type(found), int)
                    self.assertEqual(found, len(left))

    def test_offices_up_to_ten_desks_by_all_choices(self):
        for many in range(1, 11):
            for office in [chain(many), star(many), binary(many)] + [grown(many, seed) for seed in range(30, 34)]:
                for silent in range(many + 1):
                    self.assertEqual(count_recurrent(office, silent), count_by_choice(office, silent))

    def test_offices_of_every_size(self):
        for index, office in enumerate(trees()):
            many = len(office) + 1
            if many < 12 or index % 2:
                with self.subTest(office):
                    expected = sums(office)
                    for silent in {0, 1, 2, many // 2, many - 2, many - 1, many, index % many}:
                        if 0 <= silent <= many:
                            factor = math.factorial(silent) * math.factorial(many - silent)
                            value = expected[silent] if silent < len(expected) else 0
                            self.assertEqual(count_recurrent(office, silent), factor * value)

    def test_nobody_and_everybody_silent(self):
        for office in trees():
            self.assertEqual(count_recurrent(office, 0), recurrent_count(office))
            self.assertEqual(count_recurrent(office, len(office) + 1), math.factorial(len(office) + 1))

    def test_stars(self):
        for many in (2, 3, 10, 40):
            for silent in range(many):
                self.assertEqual(count_recurrent(star(many), silent), math.factorial(many - 1))


class CountByPassesTest(unittest.TestCase):

    def test_example(self):
        self.assertEqual(count_by_passes(OFFICE), [3, 12, 9])

    def test_one_by_one(self):
        for office in small_offices(6):
            order = tuple('fbdace'[:len(office) + 1])
            counts = [0] * 40
            for seating in itertools.permutations(order):
                rows = simulate(office, seating, order, len(order))[0]
                later = [passed in [name for name, _, _ in rows[at + 1:]] for at, (_, _, passed) in enumerate(rows)]
                counts[sum(later)] += 1
            while counts[-1] == 0:
                counts.pop()
            self.assertEqual(count_by_passes(office), counts)

    def test_up_to_twelve_desks(self):
        for many in range(1, 13):
            for office in [chain(many), star(many), binary(many)] + [grown(many, seed) for seed in range(3)]:
                found = count_by_passes(office)
                self.assertIs(type(found), list)
                self.assertTrue(all(type(count) is int for count in found))
                self.assertEqual(sum(found), math.factorial(many))
                self.assertGreater(found[-1], 0)
                # Nobody is passed later if everybody is called after the person above.
                self.assertGreater(found[0], 0)

    def test_known_numbers(self):
        self.assertEqual(count_by_passes(()), [1])
        self.assertEqual(count_by_passes((0,)), [1, 1])
        self.assertEqual(count_by_passes(chain(4)), [1, 11, 11, 1])
        self.assertEqual(count_by_passes(star(12)), [math.factorial(11), math.factorial(12) - math.factorial(11)])

    def test_more_than_twelve_desks(self):
        for many in range(13, 41):
            for office in (chain(many), star(many), grown(many, 1)):
                with self.assertRaises(TooMany) as caught:
                    count_by_passes(office)
                self.assertIs(type(caught.exception), TooMany)
                self.assertEqual(caught.exception.size, many)

    def test_the_list_is_new(self):
        for office in ((), OFFICE, star(5)):
            check_new_list(self, count_by_passes, office)


class NumbersTest(unittest.TestCase):

    def test_examples(self):
        self.assertEqual(nth_recurrent(OFFICE, ORDER, 1), SETTLED)
        self.assertEqual(recurrent_index(OFFICE, ORDER, SETTLED), 1)

    def check_all(self, office, order):
        """Check all numbers against all recurrent states, sorted by the positions of their names."""
        states = [seating for seating in itertools.permutations(order)
                  if 'unsettled' not in status_table(office, seating, order).values()]
        states = sorted(states, key=lambda state: tuple(order.index(name) for name in state))
        self.assertEqual(recurrent_count(office), len(states))
        for number, state in enumerate(states):
            found = nth_recurrent(office, order, number)
            self.assertIs(type(found), tuple)
            self.assertEqual(found, state)
            found = recurrent_index(office, order, state)
            self.assertIs(type(found), int)
            self.assertEqual(found, number)

    def test_up_to_five_desks(self):
        for office in small_offices(5):
            self.check_all(office, tuple('abcde'[:len(office) + 1]))
            self.check_all(office, ('cc', 'a', 'x', 'c', 'b')[:len(office) + 1])

    def test_six_desks(self):
        for office in [chain(6), star(6), binary(6)] + [grown(6, seed) for seed in range(9)]:
            self.check_all(office, tuple('fbdace'))

    def test_there_and_back(self):
        for index, office in enumerate(trees()):
            if len(office) > 12 and index % 3:
                continue
            with self.subTest(office):
                chance = random.Random(index)
                order = names_for(len(office) + 1, index)
                many = recurrent_count(office)
                numbers = sorted({0, many - 1, chance.randrange(many), chance.randrange(many), min(1, many - 1)})
                states = [nth_recurrent(office, order, number) for number in numbers]
                positions = [[order.index(name) for name in state] for state in states]
                self.assertEqual(positions, sorted(positions))
                for number, state in zip(numbers, states):
                    self.assertEqual(sorted(state), sorted(order))
                    self.assertNotIn('unsettled', status_table(office, state, order).values())
                    self.assertEqual(recurrent_index(office, order, state), number)

    def test_neighbours(self):
        for index, office in enumerate([chain(40), star(40), binary(40), grown(40, 1), grown(23, 2)]):
            order = names_for(len(office) + 1)
            number = random.Random(index).randrange(recurrent_count(office) - 3)
            rows = [[order.index(name) for name in nth_recurrent(office, order, number + more)] for more in range(3)]
            self.assertLess(rows[0], rows[1])
            self.assertLess(rows[1], rows[2])

    def test_settled_states_back_and_there(self):
        for index, office in enumerate(sample_offices()):
            chance = random.Random(index)
            names = names_for(len(office) + 1)
            seating, order = [tuple(chance.sample(names, len(names))) for _ in range(2)]
            state = settled(office, seating, order)
            self.assertEqual(nth_recurrent(office, order, recurrent_index(office, order, state)), state)

    def test_numbers_out_of_range(self):
        for index, office in enumerate(trees()):
            if index % 3:
                continue
            order = names_for(len(office) + 1)
            many = recurrent_count(office)
            for number in (-1, many, many + 1, 10 ** 60, -10 ** 36, -many):
                check_error(self, NoNumber, nth_recurrent, office, order, number)

    def test_other_names(self):
        for office in (OFFICE, star(5), chain(7), grown(9, 2)):
            many = len(office) + 1
            order, again = names_for(many, 1), names_for(many, 2)
            other = dict(zip(order, again))
            for number in range(0, recurrent_count(office), 1 + recurrent_count(office) // 20):
                state = nth_recurrent(office, order, number)
                renamed = tuple(other[name] for name in state)
                self.assertEqual(nth_recurrent(office, again, number), renamed)
                self.assertEqual(recurrent_index(office, again, renamed), number)

    def test_the_next_state_has_a_number_too(self):
        order = tuple('abcde')
        numbers = []
        for number in range(recurrent_count(star(5))):
            later = run(star(5), nth_recurrent(star(5), order, number), order, 5)
            numbers.append(recurrent_index(star(5), order, later))
        self.assertEqual(sorted(numbers), list(range(24)))


class ErrorsTest(unittest.TestCase):

    BAD_ORDERS = [(), ('a', 'b', 'c'), ('a', 'b', 'c', 'd', 'e'), ('a', 'b', 'c', 'a'), ['a', 'b', 'c', 'd'], 'abcd',
                  None, ('a', 'b', 'c', 'D'), ('a', 'b', 'c', ''), ('a', 'b', 'c', ['d']), (0, 1, 2, 3), NotShown()]
    BAD_NUMBERS = [-1, True, False, None, '1', b'1', (), (1,), [], [1], {}, 10 ** 60, -10 ** 36, EqualToAll(),
                   NotShown()]

    def office(self):
        return (OFFICE, BAD_OFFICES + odd_values(), NoOffice)

    def order(self):
        return (ORDER, self.BAD_ORDERS + odd_values(), NoOrder)

    def test_count_recurrent(self):
        bad = [5] + self.BAD_NUMBERS + odd_items()
        check_each_error(self, count_recurrent, self.office(), (4, bad, NoNumber))
        check_errors(self, count_recurrent, (OFFICE, BAD_OFFICES, NoOffice), (0, bad, NoNumber))
        for many in range(1, 41):
            for silent in (-1, many + 1):
                check_error(self, NoNumber, count_recurrent, star(many), silent)
            for silent in (0, many):
                self.assertGreater(count_recurrent(star(many), silent), 0)

    def test_count_by_passes(self):
        check_each_error(self, count_by_passes, self.office())
        check_error(self, NoOffice, count_by_passes, (0,) * 40)
        check_error(self, NoOffice, count_by_passes, [0] * 20)

    def test_nth_recurrent(self):
        bad = [6, 24] + self.BAD_NUMBERS + odd_items()
        check_each_error(self, nth_recurrent, self.office(), self.order(), (5, bad, NoNumber))
        check_errors(self, nth_recurrent, (OFFICE, BAD_OFFICES, NoOffice), (ORDER, self.BAD_ORDERS, NoOrder),
                     (0, bad[:6], NoNumber))

    def test_recurrent_index(self):
        check_each_error(self, recurrent_index, self.office(), self.order(),
                         (SETTLED, BAD_SEATINGS + odd_values(), NoSeating))
        for seating in (('a', 'b', 'c', 'e'), ('e', 'f', 'g', 'h'), ('c', 'a', 'd', 'bb')):
            check_error(self, NotAlike, recurrent_index, OFFICE, ORDER, seating)
            for order in self.BAD_ORDERS:
                check_error(self, NoOrder, recurrent_index, OFFICE, order, seating)
        for seating in itertools.permutations(ORDER):
            if 'unsettled' in status_table(OFFICE, seating, ORDER).values():
                check_error(self, NotRecurrent, recurrent_index, OFFICE, ORDER, seating)
                check_error(self, NotAlike, recurrent_index, OFFICE, ('a', 'b', 'c', 'x'), seating)
            else:
                self.assertEqual(nth_recurrent(OFFICE, ORDER, recurrent_index(OFFICE, ORDER, seating)), seating)

    def test_arguments_are_not_changed(self):
        for office in (OFFICE, [0, 0, 2], star(4)):
            check_unchanged(self, count_by_passes, office)
            for number in (1, [1], {1: [1]}):
                check_unchanged(self, count_recurrent, office, number)
                for order in (ORDER, list(ORDER), ('a', ['b'])):
                    check_unchanged(self, nth_recurrent, office, order, number)
                    for seating in (SETTLED, list(SETTLED), ('a', 'b', 'c', 'e'), ORDER):
                        check_unchanged(self, recurrent_index, office, order, seating)


if __name__ == '__main__':
    unittest.main()
