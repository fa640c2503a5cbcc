"""Calls up to 10 ** 30, numbered from 0: who sits where, and when a person is called at a desk."""

from deskswaps.calls import (MOST_FAR_CALLS, carry_out, days_and_rest, names_called, need_calls, need_name,
                             need_order)
from deskswaps.offices import need_desk
from deskswaps.settling import after_days, groups_in, settle


def seating_after(office, seating, order, calls):
    """Return the seating after this number of calls."""
    need_order(office, seating, order)
    need_calls(calls, MOST_FAR_CALLS)
    days, rest = days_and_rest(order, calls)
    now, _ = carry_out(office, after_days(office, seating, order, days), rest)
    return now


def desk_of(office, seating, order, name, calls):
    """Return the desk of a person after this number of calls."""
    need_order(office, seating, order)
    need_name(seating, name)
    return seating_after(office, seating, order, calls).index(name)


def period_of(office, state, order, name):
    """Return the number of days after which a called person of a recurrent state is called at the same desk."""
    for _, lower, names in groups_in(office, state, order):
        if name in names:
            return len(lower)
    # A called person outside of all groups is alone at desk 0.
    return 1


def days_called_at(office, seating, order, name, desk):
    """Return the days on which a called person is called at a desk.

    These are the days of the first list, and those of the second list, which
    come again and again after the number of days that is returned third.
    """
    settling, state = settle(office, seating, order)
    period = period_of(office, state, order, name)
    _, rows = carry_out(office, seating, names_called(order, (settling + period) * len(order)))
    desks = [where for one, where, _ in rows if one == name]
    early = [day for day in range(settling) if desks[day] == desk]
    again = [day for day in range(settling, settling + period) if desks[day] == desk]
    return (early, again, period)


def need_person_and_desk(office, seating, order, name, desk):
    """Raise the error of the first wrong value of these."""
    need_order(office, seating, order)
    need_name(seating, name)
    need_desk(office, desk)


def calls_at(office, seating, order, name, desk, calls):
    """Return how many of the first calls are calls of this person at this desk."""
    need_person_and_desk(office, seating, order, name, desk)
    need_calls(calls, MOST_FAR_CALLS)
    if name not in order:
        return 0
    early, again, period = days_called_at(office, seating, order, name, desk)
    days, rest = days_and_rest(order, calls)
    if name in rest:
        days += 1
    many = len([day for day in early if day < days])
    return many + sum([(days - day - 1) // period + 1 for day in again if day < days])


def nth_call_at(office, seating, order, name, desk, number):
    """Return the number of the call of this person at this desk after `number` earlier ones, or None."""
    need_person_and_desk(office, seating, order, name, desk)
    need_calls(number, MOST_FAR_CALLS)
    if name not in order:
        return None
    early, again, period = days_called_at(office, seating, order, name, desk)
    if number < len(early):
        day = early[number]
    elif len(again) == 0:
        return None
    else:
        periods, index = divmod(number - len(early), len(again))
        day = again[index] + periods * period
    return day * len(order) + order.index(name)
