"""Counting states, and the numbers of the recurrent states if everybody is called."""

from math import comb, factorial, perm

from deskswaps.calls import is_seating, need_seating
from deskswaps.cycles import need_alike
from deskswaps.errors import NoNumber, NoOrder, NotRecurrent, TooMany
from deskswaps.groups import lower_desks, recurrent_count
from deskswaps.kinds import is_number
from deskswaps.offices import need_office
from deskswaps.states import is_settled
from deskswaps.waiting import next_calls

MOST_DESKS_BY_PASSES = 12


def side_by_side(one, other):
    """Return the table of desks that are made up of two parts, given the tables of the parts.

    The keys of a table are tuples: how many desks at the top of the part are
    open, how many persons of the part are silent and how many are called. The
    values are the numbers of ways to seat the called ones.
    """
    found = {}
    for (opened, silent, called), ways in one.items():
        for (opened_there, silent_there, called_there), ways_there in other.items():
            key = (opened + opened_there, silent + silent_there, called + called_there)
            chosen = comb(called + called_there, called)
            found[key] = found.get(key, 0) + chosen * ways * ways_there
    return found


def with_upper(table):
    """Return the table of a desk and all desks below it, given the table of those below it."""
    found = {}
    for (opened, silent, called), ways in table.items():
        # Of the persons of a group, which may be any, the one called last sits at the center.
        key = (1 if opened == 0 else 0, silent, called + 1)
        found[key] = found.get(key, 0) + ways * (called + 1) // (opened + 1)
        if opened == 0:
            key = (0, silent + 1, called)
            found[key] = found.get(key, 0) + ways
    return found


def count_recurrent(office, silent):
    """Return the number of recurrent states for one set of names and one order with so many silent persons."""
    need_office(office)
    many = len(office) + 1
    if not is_number(silent, 0, many):
        raise NoNumber("this is not a number of silent persons")
    tables = [{(0, 0, 0): 1} for _ in range(many)]
    for desk in reversed(range(1, many)):
        upper = office[desk - 1]
        tables[upper] = side_by_side(tables[upper], with_upper(tables[desk]))
    found = with_upper(tables[0])
    ways = found.get((0, silent, many - silent), 0) + found.get((1, silent, many - silent), 0)
    return factorial(silent) * ways


def count_by_passes(office):
    """Return the list of the numbers of seatings whose first day has 0, 1, 2 .. passes."""
    need_office(office)
    many = len(office) + 1
    if many > MOST_DESKS_BY_PASSES:
        raise TooMany(many)
    now = {(tuple(range(many)), 0): 1}
    for _ in range(many):
        after = {}
        for (waiting, passes), count in now.items():
            for _, passed, left in next_calls(office, waiting):
                key = (left, passes + 1 if passed else passes)
                after[key] = after.get(key, 0) + count
        now = after
    most = max([passes for _, passes in now])
    return [now.get(((), passes), 0) for passes in range(most + 1)]


def states_that_begin(rows, placed):
    """Return the number of recurrent states whose first desks have these positions.

    The lists `rows` contain the lower desks of each desk; `placed` is the list
    of the positions, in the order, of the persons at the first desks. None of
    these desks is a lower desk with a position after that of its center.
    """
    many = len(rows)
    count = 1
    used = 0
    for index, (position, center) in enumerate(sorted([(position, desk) for desk, position in enumerate(placed)])):
        # The lower desks that are left get positions before that of their center. The positions
        # before it are taken by the persons placed there and by the lower desks counted so far.
        waiting = len([desk for desk in rows[center] if desk >= len(placed)])
        before = position - index - used
        if before < waiting:
            return 0
        count *= perm(before, waiting)
        used += waiting
    count *= factorial(many - len(placed) - used)
    for center in range(len(placed), many):
        count //= len(rows[center]) + 1
    return count


def need_whole_order(office, order):
    """Raise NoOffice, or NoOrder unless the value is a tuple of as many different names as there are desks."""
    # That is what makes a seating, too.
    if not is_seating(office, order):
        raise NoOrder("this is not an order of as many persons as there are desks")


def states_that_go_on(rows, placed, position):
    """Return the number of recurrent states whose first desks have these positions, and the next desk this one."""
    if position in placed:
        return 0
    return states_that_begin(rows, [*placed, position])


def next_position(rows, placed, number):
    """Return the position at the next desk, and the number of the state among those with this position there."""
    # The number is found before a lower desk could get a position after that of its center.
    position = 0
    left = number
    count = states_that_go_on(rows, placed, position)
    while left >= count:
        left -= count
        position += 1
        count = states_that_go_on(rows, placed, position)
    return (position, left)


def nth_recurrent(office, order, number):
    """Return the recurrent state with this number as a seating."""
    need_whole_order(office, order)
    if not is_number(number, 0, recurrent_count(office) - 1):
        raise NoNumber("there is no recurrent state with this number")
    rows = lower_desks(office)
    placed = []
    left = number
    while len(placed) < len(order):
        position, left = next_position(rows, placed, left)
        placed.append(position)
    return tuple([order[position] for position in placed])


def recurrent_index(office, order, seating):
    """Return the number of a recurrent state."""
    need_whole_order(office, order)
    need_seating(office, seating)
    need_alike(order, seating)
    if not is_settled(office, seating, order):
        raise NotRecurrent("this state does not come again")
    rows = lower_desks(office)
    placed = [order.index(name) for name in seating]
    number = 0
    for desk, position in enumerate(placed):
        number += sum([states_that_go_on(rows, placed[:desk], other) for other in range(position)])
    return number
