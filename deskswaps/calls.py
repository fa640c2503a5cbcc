"""Seatings, orders, and the calls that change a seating."""

from deskswaps.errors import NoCalls, NoName, NoOrder, NoSeating
from deskswaps.kinds import are_different_names, is_name, is_number
from deskswaps.offices import need_office

MOST_CALLS = 2000
MOST_FAR_CALLS = 10 ** 30


def is_seating(office, value):
    """Tell whether the value is a seating of the office; any value may be asked."""
    need_office(office)
    return are_different_names(value) and len(value) == len(office) + 1


def is_order(office, seating, value):
    """Tell whether the value is an order for the seating; any value may be asked."""
    need_seating(office, seating)
    return are_different_names(value) and all([name in seating for name in value])


def need_seating(office, seating):
    """Raise NoOffice, or NoSeating unless the value is a seating of the office."""
    if not is_seating(office, seating):
        raise NoSeating("this is not a seating of the office")


def need_order(office, seating, order):
    """Raise NoOffice or NoSeating, or NoOrder unless the value is an order for the seating."""
    if not is_order(office, seating, order):
        raise NoOrder("this is not an order for the seating")


def need_name(seating, name):
    """Raise NoName unless the value is a name of this seating."""
    if not is_name(name) or name not in seating:
        raise NoName("this is not a name of the seating")


def need_calls(calls, most):
    """Raise NoCalls unless the value is a number of calls from 0 to the most."""
    if not is_number(calls, 0, most):
        raise NoCalls("this is not such a number of calls")


def carry_out(office, seating, names):
    """Carry out calls of these persons, one after the other.

    Returns the seating after the calls, and a list of tuples: the name of the
    called person, its desk before the call, and the name of the passed person,
    which is None at desk 0.
    """
    people = list(seating)
    rows = []
    for name in names:
        desk = people.index(name)
        passed = None
        if desk > 0:
            upper = office[desk - 1]
            passed = people[upper]
            people[upper] = name
            people[desk] = passed
        rows.append((name, desk, passed))
    return (tuple(people), rows)


def names_called(order, calls):
    """Return the names of the first calls of successive days as a list."""
    # With an empty order every number of calls stands for none.
    if len(order) == 0:
        return []
    return [order[number % len(order)] for number in range(calls)]


def days_and_rest(order, calls):
    """Return the number of whole days, and the persons called on the day after them as a tuple."""
    if len(order) == 0:
        return (0, ())
    days, rest = divmod(calls, len(order))
    return (days, order[:rest])


def after_call(office, seating, name):
    """Return the seating after a call of one person."""
    need_seating(office, seating)
    need_name(seating, name)
    after, _ = carry_out(office, seating, [name])
    return after


def run(office, seating, order, calls):
    """Return the seating after a number of calls of successive days."""
    need_order(office, seating, order)
    need_calls(calls, MOST_CALLS)
    after, _ = carry_out(office, seating, names_called(order, calls))
    return after


def record(office, seating, order, calls):
    """Return the first calls of successive days as a list of tuples (name, desk, passed)."""
    need_order(office, seating, order)
    need_calls(calls, MOST_CALLS)
    _, rows = carry_out(office, seating, names_called(order, calls))
    return rows
