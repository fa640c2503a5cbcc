"""Seatings, orders, and the calls that change a seating."""

from deskswaps.errors import NoCalls, NoName, NoOrder, NoSeating
from deskswaps.kinds import are_different_names, is_name, is_number
from deskswaps.offices import need_office

MOST_CALLS = 2000


def is_seating(office, value):
    """Tell whether the value is a seating of the office; any value may be asked."""
    need_office(office)
    return are_different_names(value) and len(value) == len(office) + 1


def is_order(office, seating, value):
    """Tell whether the value is an order for the seating; any value may be asked."""
    need_seating(office, seating)
    return are_different_names(value) and all([name in seating for name in value])


def need_seating(office, seating):
    """Raise NoOffice, or NoSeating unless the value is a seating of the office."""
    if not is_seating(office, seating):
        raise NoSeating("this is not a seating of the office")


def need_order(office, seating, order):
    """Raise NoOffice or NoSeating, or NoOrder unless the value is an order for the seating."""
    if not is_order(office, seating, order):
        raise NoOrder("this is not an order for the seating")


def need_name(seating, name):
    """Raise NoName unless the value is a name of this seating."""
    if not is_name(name) or name not in seating:
        raise NoName("this is not a name of the seating")


def need_calls(calls, most):
    """Raise NoCalls unless the value is a number of calls from 0 to the most."""
    if not is_number(calls, 0, most):
        raise NoCalls("this is not such a number of calls")


def step(office, seating, name):
    """Carry out one call.

    Returns the seating after the call, the desk of the called person before
    it, and the name of the passed person, which is None at desk 0.
    """
    desk = seating.index(name)
    if desk == 0:
        return (seating, desk, None)
    upper = office[desk - 1]
    passed = seating[upper]
    people = list(seating)
    people[upper] = name
    people[desk] = passed
    return (tuple(people), desk, passed)


def names_called(order, calls):
    """Return the names of the first calls of successive days as a list."""
    # With an empty order every number of calls stands for none.
    if len(order) == 0:
        return []
    return [order[number % len(order)] for number in range(calls)]


def after_call(office, seating, name):
    """Return the seating after a call of one person."""
    need_seating(office, seating)
    need_name(seating, name)
    after, _, _ = step(office, seating, name)
    return after


def run(office, seating, order, calls):
    """Return the seating after a number of calls of successive days."""
    need_order(office, seating, order)
    need_calls(calls, MOST_CALLS)
    now = seating
    for name in names_called(order, calls):
        now, _, _ = step(office, now, name)
    return now


def record(office, seating, order, calls):
    """Return the first calls of successive days as a list of tuples (name, desk, passed)."""
    need_order(office, seating, order)
    need_calls(calls, MOST_CALLS)
    now = seating
    rows = []
    for name in names_called(order, calls):
        now, desk, passed = step(office, now, name)
        rows.append((name, desk, passed))
    return rows
