"""Independent models: the words of point 8, all days of a small office, and a run gone day by day."""

import itertools

from tests.support import Persons, simulate, walk_up


def small_offices(most):
    """All offices with up to this number of desks."""
    return [office for many in range(1, most + 1)
            for office in itertools.product(*[range(index + 1) for index in range(many - 1)])]


def open_desks(office, table, desk):
    return [lower for lower, upper in enumerate(office, 1) if upper == desk and table[lower] == 'open']


def status_table(office, seating, order):
    """The statuses of the desks, found in the words of the document, from the last desk to the first."""
    times = {name: time for time, name in enumerate(order)}
    table = {}
    for desk in reversed(range(len(seating))):
        found = open_desks(office, table, desk)
        time = times.get(seating[desk])
        if not found and time is None:
            table[desk] = 'silent'
        elif not found:
            table[desk] = 'open'
        elif time is not None and all(times[seating[lower]] < time for lower in found):
            table[desk] = 'center'
        else:
            table[desk] = 'unsettled'
    return table


def obstructions(office, seating, order):
    """All obstructions of a state, in the words of the document."""
    times = {name: time for time, name in enumerate(order)}
    table = status_table(office, seating, order)
    found = []
    for desk, status in table.items():
        if status == 'unsettled' and seating[desk] not in times:
            found.append((desk, None))
        elif status == 'unsettled':
            found += [(desk, lower) for lower in open_desks(office, table, desk)
                      if times[seating[lower]] > times[seating[desk]]]
    return found


def groups_by_table(office, state, order):
    """The groups of a recurrent state, in the words of the document."""
    table = status_table(office, state, order)
    found = []
    for center in range(len(state)):
        if table[center] == 'center':
            lower = open_desks(office, table, center)
            people = {state[desk] for desk in [center] + lower}
            found.append((center, lower, sorted(people, key=order.index)))
    return found


def day_map(office, order, names):
    """For each seating of these names the seating one day later."""
    found = {}
    for seating in itertools.permutations(names):
        persons = Persons(office, seating)
        for name in order:
            persons.call(name)
        found[seating] = persons.seating()
    return found


def left_for_ever(following):
    """The seatings that are left after any number of days."""
    now = set(following)
    while True:
        after = {following[seating] for seating in now}
        if after == now:
            return now
        now = after


class Orbit:
    """A run gone day by day until a state comes again; what comes later is read off these days."""

    def __init__(self, office, seating, order):
        self.office, self.order = office, order
        self.states, self.rows = [], []
        persons, days, now = Persons(office, seating), {}, seating
        while now not in days:
            days[now] = len(self.states)
            self.states.append(now)
            self.rows.append([persons.call(name) for name in order])
            now = persons.seating()
        self.first = days[now]
        self.length = len(self.states) - self.first

    def state(self, days):
        if days < self.first:
            return self.states[days]
        return self.states[self.first + (days - self.first) % self.length]

    def times(self, index, days):
        """How many of the first days go like the one with this index."""
        if index < self.first or days <= index:
            return int(index < days)
        return (days - index - 1) // self.length + 1

    def split(self, calls):
        return divmod(calls, len(self.order)) if self.order else (0, 0)

    def seating_after(self, calls):
        days, rest = self.split(calls)
        return simulate(self.office, self.state(days), self.order, rest)[1][-1]

    def total(self, weight, calls):
        """The sum of the weights of the rows of the first calls."""
        days, rest = self.split(calls)
        last = simulate(self.office, self.state(days), self.order, rest)[0]
        return sum(map(weight, last)) + sum(sum(map(weight, rows)) * self.times(index, days)
                                            for index, rows in enumerate(self.rows))


def removed_groups(office):
    """The groups if everybody is called, and whether desk 0 is left alone.

    Again and again the superior of a deepest desk is removed with all desks
    that are left directly below it.
    """
    left, found = set(range(len(office) + 1)), []
    while left - {0}:
        deepest = max(left, key=lambda desk: len(walk_up(office, desk)))
        center = office[deepest - 1]
        lower = sorted(desk for desk in left - {0} if office[desk - 1] == center)
        found.append((center, lower))
        left -= {center, *lower}
    return sorted(found), left == {0}
