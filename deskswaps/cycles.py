"""What happens again and again from the first recurrent state on, and when two runs meet."""

from deskswaps.calls import carry_out, names_called, need_name, need_order, need_seating
from deskswaps.errors import NotAlike, TooMany
from deskswaps.groups import common_multiple
from deskswaps.settling import groups_of, settled, settling_day, turned

MOST_STATES = 200


def cycle_length(office, seating, order):
    """Return the number of days after which the first recurrent state occurs again for the first time."""
    return common_multiple([len(lower) for _, lower, _ in groups_of(office, seating, order)])


def cycle_of(office, seating, order):
    """Return the states from the first recurrent state until it occurs again as a list."""
    length = cycle_length(office, seating, order)
    if length > MOST_STATES:
        raise TooMany(length)
    state = settled(office, seating, order)
    return [turned(office, state, order, days) for days in range(length)]


def passes_in_cycle(office, seating, order, one, other):
    """Return how often one person passes the other during one cycle from the first recurrent state on."""
    need_order(office, seating, order)
    need_name(seating, one)
    need_name(seating, other)
    for _, _, names in groups_of(office, seating, order):
        # At each call of a group its last called person sits at the center: every day each
        # person passes the one that is called before it, and the first one passes the last one.
        if one in names and names[names.index(one) - 1] == other:
            return cycle_length(office, seating, order)
    return 0


def need_alike(names, others):
    """Raise NotAlike unless two tuples of different names have the same names."""
    if sorted(names) != sorted(others):
        raise NotAlike("the names are not the same")


def meet(office, seating, other, order):
    """Return the least number of calls after which two seatings have become equal, or None."""
    need_seating(office, seating)
    need_seating(office, other)
    need_order(office, seating, order)
    need_alike(seating, other)
    if seating == other:
        return 0
    # Two recurrent states stay different: each of them is what only one recurrent state leads to.
    days = max(settling_day(office, seating, order), settling_day(office, other, order))
    one, two = seating, other
    for index, name in enumerate(names_called(order, days * len(order))):
        one, _ = carry_out(office, one, [name])
        two, _ = carry_out(office, two, [name])
        if one == two:
            return index + 1
    return None
