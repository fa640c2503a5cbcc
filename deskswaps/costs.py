"""What calls cost: the depth of the desk at which the called person sits before the call."""

from deskswaps.calls import MOST_FAR_CALLS, carry_out, days_and_rest, names_called, need_calls, need_order
from deskswaps.settling import after_days, settle


def depths(office):
    """Return the depths of all desks as a list."""
    found = [0]
    for upper in office:
        found.append(found[upper] + 1)
    return found


def cost_of(office, seating, names):
    """Return the sum of the costs of calls of these persons, one after the other."""
    levels = depths(office)
    _, rows = carry_out(office, seating, names)
    return sum([levels[desk] for _, desk, _ in rows])


def day_cost(office, seating, order):
    """Return the sum of the costs of the calls of the first day."""
    need_order(office, seating, order)
    return cost_of(office, seating, order)


def passes(office, seating, order):
    """Return the passes of the first day over persons that are called later on that day.

    They are tuples (name, passed) in the order of the calls.
    """
    need_order(office, seating, order)
    _, rows = carry_out(office, seating, order)
    return [(name, passed) for at, (name, _, passed) in enumerate(rows) if passed in order[at + 1:]]


def cost_of_calls(office, seating, order, calls):
    """Return the sum of the costs of the first calls of successive days."""
    need_order(office, seating, order)
    need_calls(calls, MOST_FAR_CALLS)
    days, rest = days_and_rest(order, calls)
    settling, state = settle(office, seating, order)
    early = min(days, settling)
    cost = cost_of(office, seating, names_called(order, early * len(order)))
    # From the first recurrent state on all days have the same cost.
    cost += (days - early) * cost_of(office, state, order)
    return cost + cost_of(office, after_days(office, seating, order, days), rest)


def final_cost(office, seating, order):
    """Return the cost of every day from the first recurrent state on."""
    need_order(office, seating, order)
    _, state = settle(office, seating, order)
    return cost_of(office, state, order)
