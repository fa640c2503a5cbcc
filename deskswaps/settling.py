"""How an office falls into groups, and what the groups do from then on."""

from deskswaps.calls import carry_out, names_called, need_order
from deskswaps.states import is_settled, open_below


def settle(office, seating, order):
    """Return the number of days until the state is recurrent, and the first recurrent state."""
    days = 0
    now = seating
    while not is_settled(office, now, order):
        now, _ = carry_out(office, now, order)
        days += 1
    return (days, now)


def groups_in(office, state, order):
    """Return the groups of a recurrent state as a list of tuples (center, lower, names)."""
    found = []
    for center, lower in enumerate(open_below(office, state, order)):
        if len(lower) > 0:
            people = [state[desk] for desk in [center, *lower]]
            found.append((center, lower, [name for name in order if name in people]))
    return found


def turned(office, state, order, days):
    """Return the recurrent state that a recurrent state has become after this number of days."""
    people = list(state)
    for _, lower, names in groups_in(office, state, order):
        # The person at the center is called last and comes back to it at the end of the day. Each of
        # the others is left at the desk of the one that is called next, the last one at that of the first.
        for index, name in enumerate(names[:-1]):
            following = names[(index + days) % len(lower)]
            people[state.index(following)] = name
    return tuple(people)


def after_days(office, seating, order, days):
    """Return the seating after any number of days."""
    settling, state = settle(office, seating, order)
    if days >= settling:
        return turned(office, state, order, days - settling)
    now, _ = carry_out(office, seating, names_called(order, days * len(order)))
    return now


def settling_day(office, seating, order):
    """Return the number of days until the state is recurrent, 0 if it is."""
    need_order(office, seating, order)
    days, _ = settle(office, seating, order)
    return days


def settled(office, seating, order):
    """Return the first recurrent state."""
    need_order(office, seating, order)
    _, state = settle(office, seating, order)
    return state


def groups_of(office, seating, order):
    """Return the groups of the first recurrent state as a list of tuples (center, lower, names)."""
    return groups_in(office, settled(office, seating, order), order)
