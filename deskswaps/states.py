"""The status of every desk of a state, and what keeps a state from being recurrent."""

from deskswaps.calls import need_order
from deskswaps.kinds import is_number


def open_desks(office, called):
    """Return for each desk the ascending list of the open desks directly below it.

    The list `called` tells for each desk whether the person there is called.
    """
    rows = [[] for _ in called]
    # In descending order, all desks directly below a desk have had their turn before it.
    for desk in range(len(office), 0, -1):
        if len(rows[desk]) == 0 and called[desk]:
            rows[office[desk - 1]].insert(0, desk)
    return rows


def open_below(office, seating, order):
    """Return for each desk of a state the ascending list of the open desks directly below it."""
    return open_desks(office, [name in order for name in seating])


def blockers_at(desk, under, seating, order):
    """Return what makes the desk unsettled, given the open desks directly below it.

    These are the open desks whose persons come in the order after the person
    at the desk, in the order of the calls, or None if that person is silent.
    """
    name = seating[desk]
    if name not in order:
        return [None] if len(under) > 0 else []
    people = [seating[lower] for lower in under]
    later = order[order.index(name) + 1:]
    return [seating.index(one) for one in later if one in people]


def blockers(office, seating, order):
    """Return for each desk the list of what makes it unsettled."""
    rows = open_below(office, seating, order)
    return [blockers_at(desk, under, seating, order) for desk, under in enumerate(rows)]


def is_settled(office, seating, order):
    """Tell whether no desk is unsettled, for arguments that are known to be right."""
    return all([len(row) == 0 for row in blockers(office, seating, order)])


def status_of(desk, under, seating, order):
    """Return the status of the desk, given the open desks directly below it."""
    if len(blockers_at(desk, under, seating, order)) > 0:
        return "unsettled"
    if len(under) > 0:
        return "center"
    return "open" if seating[desk] in order else "silent"


def statuses(office, seating, order):
    """Return the statuses of all desks as a list."""
    need_order(office, seating, order)
    rows = open_below(office, seating, order)
    return [status_of(desk, under, seating, order) for desk, under in enumerate(rows)]


def is_recurrent(office, seating, order):
    """Tell whether the state comes again."""
    need_order(office, seating, order)
    return is_settled(office, seating, order)


def obstruction(office, seating, order):
    """Return the obstruction with the greatest unsettled desk, or None for a recurrent state."""
    need_order(office, seating, order)
    found = None
    for desk, row in enumerate(blockers(office, seating, order)):
        if len(row) > 0:
            found = (desk, row[-1])
    return found


def is_obstruction(office, seating, order, value):
    """Tell whether the value is an obstruction of the state; any value may be asked."""
    need_order(office, seating, order)
    if not isinstance(value, tuple) or len(value) != 2:
        return False
    desk, lower = value
    # Kinds first: True is equal to 1, and a value of another kind may claim to be equal to all.
    if not is_number(desk, 0, len(office)) or not (lower is None or is_number(lower, 0, len(office))):
        return False
    return lower in blockers(office, seating, order)[desk]
