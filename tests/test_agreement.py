"""Points 2, 7, 8, 10 and 12 over the whole program: what the functions return for the same state agrees."""

import itertools
import math
import random
import unittest

from deskswaps.backwards import before_call, count_before, days_back
from deskswaps.calls import after_call, record, run
from deskswaps.console import Console
from deskswaps.costs import cost_of_calls, day_cost, final_cost, passes
from deskswaps.counting import count_by_passes, count_recurrent, nth_recurrent, recurrent_index
from deskswaps.cycles import cycle_length, cycle_of, meet, passes_in_cycle
from deskswaps.far import calls_at, desk_of, nth_call_at, seating_after
from deskswaps.groups import groups, is_alone, levels, period, recurrent_count
from deskswaps.live import LiveOffice
from deskswaps.offices import below, depth, path_up, superior
from deskswaps.reading import count_with_costs, seating_from_desks
from deskswaps.settling import groups_of, settled, settling_day
from deskswaps.states import is_obstruction, is_recurrent, obstruction, statuses
from deskswaps.texts import read_office, show_office
from tests.model import small_offices
from tests.support import names_for, sample_offices, sample_states


def states():
    """Some states of offices of every size."""
    for index, state in enumerate(sample_states(sample_offices(), 31)):
        if index % 3 == 0:
            yield state


class AgreementTest(unittest.TestCase):

    def test_states(self):
        for state in states():
            recurrent = is_recurrent(*state)
            self.assertIs(recurrent, 'unsettled' not in statuses(*state))
            self.assertIs(recurrent, obstruction(*state) is None)
            self.assertIs(recurrent, settling_day(*state) == 0)
            self.assertIs(recurrent, settled(*state) == state[1])
            self.assertIs(is_obstruction(*state, obstruction(*state)), not recurrent)

    def test_settled_states(self):
        for office, seating, order in states():
            state = (office, settled(office, seating, order), order)
            days = settling_day(office, seating, order)
            self.assertIs(is_recurrent(*state), True)
            self.assertEqual(seating_after(office, seating, order, days * len(order)), state[1])
            self.assertEqual(cost_of_calls(office, seating, order, days * len(order)) + final_cost(*state),
                             cost_of_calls(office, seating, order, (days + 1) * len(order)))
            self.assertEqual(final_cost(*state), day_cost(*state))
            table = statuses(*state)
            self.assertEqual([center for center, _, _ in groups_of(*state)],
                             [desk for desk, status in enumerate(table) if status == 'center'])
            for center, lower, names in groups_of(*state):
                self.assertEqual(lower, [desk for desk in below(office, center) if table[desk] == 'open'])
                self.assertEqual({desk_of(*state, name, 0) for name in names}, {center, *lower})
                self.assertEqual(desk_of(*state, names[-1], 0), center)

    def test_cycles(self):
        for office, seating, order in states():
            state = (office, settled(office, seating, order), order)
            length = cycle_length(*state)
            calls = length * len(order)
            self.assertEqual(seating_after(*state, calls), state[1])
            if length > 40:
                continue
            found = cycle_of(office, seating, order)
            self.assertEqual(len(found), length)
            self.assertEqual([recurrent for recurrent in found if not is_recurrent(office, recurrent, order)], [])
            for one, other in zip(found, found[1:] + found[:1]):
                self.assertEqual(run(office, one, order, len(order)), other)
            self.assertEqual(cost_of_calls(*state, calls), length * final_cost(*state))
            for _, lower, names in groups_of(*state):
                self.assertEqual(length % len(lower), 0)
                for name in names[:2]:
                    total = sum(passes_in_cycle(*state, name, other) for other in names)
                    self.assertEqual(total, length)
                    visits = [calls_at(*state, name, desk, calls) for desk in lower]
                    self.assertEqual(visits, [length // len(lower)] * len(lower))
                    one, other = [nth_call_at(*state, name, lower[0], number) for number in (3, 4)]
                    self.assertEqual(other - one, len(lower) * len(order))

    def test_the_cost_of_a_day(self):
        for office, seating, order in states():
            depths = [depth(office, seating.index(name)) for name in order]
            self.assertEqual(day_cost(office, seating, order), sum(depths) + len(passes(office, seating, order)))
            rows = record(office, seating, order, min(2000, len(order)))
            self.assertEqual(day_cost(office, seating, order), sum(depth(office, desk) for _, desk, _ in rows))
            self.assertEqual(cost_of_calls(office, seating, order, len(order)), day_cost(office, seating, order))
            for _, desk, passed in rows:
                self.assertIs(superior(office, desk) is None, passed is None)
                self.assertEqual(path_up(office, desk)[1:2], [superior(office, desk)] if desk else [])

    def test_everybody_is_called(self):
        for index, office in enumerate(sample_offices()):
            names = names_for(len(office) + 1, 3)
            order = tuple(random.Random(index).sample(names, len(names)))
            state = (office, names, order)
            self.assertEqual([(center, lower) for center, lower, _ in groups_of(*state)], groups(office))
            self.assertEqual(statuses(office, settled(*state), order)[0] == 'open', is_alone(office))
            self.assertLessEqual(settling_day(*state), levels(office))
            self.assertEqual(cycle_length(*state), period(office))
            depths = sum(depth(office, desk) for desk in range(len(names)))
            # Every day the first person of each group passes the last one, which is called later.
            self.assertEqual(final_cost(*state), depths + len(groups(office)))
            number = recurrent_index(office, order, settled(*state))
            self.assertLess(number, recurrent_count(office))
            self.assertEqual(nth_recurrent(office, order, number), settled(*state))
            self.assertEqual(count_recurrent(office, 0), recurrent_count(office))

    def test_counts_of_small_offices(self):
        for office in small_offices(4):
            names = tuple('abcd'[:len(office) + 1])
            seatings = list(itertools.permutations(names))
            passed = count_by_passes(office)
            for many, count in enumerate(passed):
                self.assertEqual(len([seating for seating in seatings
                                      if len(passes(office, seating, names)) == many]), count)
            for called in range(len(names) + 1):
                order = names[:called]
                left = [seating for seating in seatings if is_recurrent(office, seating, order)]
                self.assertEqual(len(left), count_recurrent(office, len(names) - called))
                self.assertEqual(left, [seating for seating in seatings if days_back(office, seating, order) is None])
                costs = {tuple(depth(office, desk) for _, desk, _ in record(office, seating, order, called))
                         for seating in seatings}
                self.assertEqual(sum(count_with_costs(office, names, order, one) for one in costs), len(seatings))

    def test_back_and_there(self):
        for office, seating, order in states():
            for name in order[:3]:
                for before in before_call(office, seating, name):
                    self.assertEqual(after_call(office, before, name), seating)
            desks = tuple(desk for _, desk, _ in record(office, seating, order, len(order)))
            self.assertEqual(seating_from_desks(office, order, desks), [seating.index(name) for name in order])
            if len(seating) <= 6:
                days = days_back(office, seating, order)
                after = 9 if days is None else days
                most = 60 // len(order) if order else 0
                for back in range(most + 1):
                    self.assertIs(count_before(office, seating, order, back * len(order)) > 0, back <= after or
                                  days is None)

    def test_runs_that_meet(self):
        for office, seating, order in states():
            other = tuple(random.Random(len(office)).sample(seating, len(seating)))
            number = meet(office, seating, other, order)
            if number is None:
                self.assertNotEqual(settled(office, seating, order), seating_after(
                    office, other, order, settling_day(office, seating, order) * len(order)))
            else:
                self.assertEqual(run(office, seating, order, number), run(office, other, order, number))
                self.assertEqual(groups_of(office, seating, order), groups_of(office, other, order))

    def test_live_offices_texts_and_consoles(self):
        for office, seating, order in states():
            text = show_office(office, seating)
            live = LiveOffice(*read_office(text))
            self.assertEqual(live, LiveOffice(office, seating))
            console = Console()
            console.say('open ' + text[:-1].replace('\n', ';'))
            live.reorder(order)
            console.say(' '.join(['order', *order]))
            self.assertEqual(console.say('settle'), str(settling_day(office, seating, order)))
            self.assertEqual(console.say('cost'), str(final_cost(office, seating, order)))
            live.days(3)
            console.say('days 3')
            self.assertEqual(console.say('seating'), ' '.join(live.seating()))
            self.assertEqual(live.seating(), run(office, seating, order, 3 * len(order)))
            self.assertEqual(show_office(live.office(), live.seating()).split()[1::2], list(live.seating()))

    def test_the_number_of_recurrent_states(self):
        for office in sample_offices():
            product = math.prod(1 + len(lower) for _, lower in groups(office))
            self.assertEqual(recurrent_count(office) * product, math.factorial(len(office) + 1))


if __name__ == '__main__':
    unittest.main()
