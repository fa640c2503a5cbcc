"""Back in time: the seatings from which calls lead to a seating."""

from deskswaps.calls import names_called, need_calls, need_name, need_order, need_seating
from deskswaps.errors import TooMany
from deskswaps.states import is_settled

MOST_CALLS_BACK = 60
MOST_DESKS_BACK = 6


def undone(office, seating, name):
    """Return all seatings from which a call of this person leads to the seating."""
    desk = seating.index(name)
    # A call at desk 0 changes nothing.
    found = [seating] if desk == 0 else []
    for index, upper in enumerate(office):
        if upper == desk:
            people = list(seating)
            people[desk], people[index + 1] = people[index + 1], people[desk]
            found.append(tuple(people))
    return found


def all_undone(office, seatings, names):
    """Return all seatings from which calls lead to one of the seatings, given who is called, the last one first."""
    found = seatings
    for name in names:
        found = [before for seating in found for before in undone(office, seating, name)]
    return found


def need_few_desks(office):
    """Raise TooMany for an office with more desks than all seatings are sought for."""
    if len(office) + 1 > MOST_DESKS_BACK:
        raise TooMany(len(office) + 1)


def before_call(office, seating, name):
    """Return all seatings from which a call of this person leads to the seating, as an ascending list."""
    need_seating(office, seating)
    need_name(seating, name)
    return sorted(undone(office, seating, name))


def count_before(office, seating, order, calls):
    """Return the number of seatings from which the last calls of repeated days lead to the seating."""
    need_order(office, seating, order)
    need_calls(calls, MOST_CALLS_BACK)
    need_few_desks(office)
    return len(all_undone(office, [seating], names_called(order[::-1], calls)))


def days_back(office, seating, order):
    """Return the greatest number of days that can lead to the state, or None if there is no greatest number."""
    need_order(office, seating, order)
    need_few_desks(office)
    if is_settled(office, seating, order):
        return None
    days = 0
    found = all_undone(office, [seating], order[::-1])
    while len(found) > 0:
        days += 1
        found = all_undone(office, found, order[::-1])
    return days
