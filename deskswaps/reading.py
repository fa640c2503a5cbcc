"""Reading a seating from what is observed on the first day: desks or costs of the calls."""

from math import factorial

from deskswaps.calls import need_order
from deskswaps.costs import depths
from deskswaps.errors import Impossible, NoCosts, NoDesks, NoOrder, TooMany
from deskswaps.kinds import are_different_names, is_number, is_whole
from deskswaps.offices import need_office
from deskswaps.waiting import next_calls

MOST_DESKS_BY_COSTS = 7


def need_persons(office, order):
    """Raise NoOrder unless the value is an order for some seating of this office."""
    if not are_different_names(order) or len(order) > len(office) + 1:
        raise NoOrder("this is not a tuple of different names, at most one for each desk")


def need_desks(office, order, desks):
    """Raise NoDesks unless the value is a tuple of one desk of this office for each person of the order."""
    if not isinstance(desks, tuple) or len(desks) != len(order):
        raise NoDesks("this is not a tuple of as many desks as there are persons")
    if not all([is_number(desk, 0, len(office)) for desk in desks]):
        raise NoDesks("this is not a tuple of desks of the office")


def need_costs(order, costs):
    """Raise NoCosts unless the value is a tuple of one cost for each person of the order."""
    if not isinstance(costs, tuple) or len(costs) != len(order):
        raise NoCosts("this is not a tuple of as many costs as there are persons")
    if not all([is_whole(cost) and cost >= 0 for cost in costs]):
        raise NoCosts("this is not a tuple of costs")


def seating_from_desks(office, order, desks):
    """Return the desks at the beginning of the first day of the persons who are called at these desks."""
    need_office(office)
    need_persons(office, order)
    need_desks(office, order, desks)
    # For each desk, where the person that sits there now sat at the beginning.
    first = list(range(len(office) + 1))
    found = []
    for index, desk in enumerate(desks):
        if first[desk] in found:
            raise Impossible(index)
        found.append(first[desk])
        if desk > 0:
            upper = office[desk - 1]
            first[upper], first[desk] = first[desk], first[upper]
    return found


def count_with_costs(office, names, order, costs):
    """Return the number of seatings of these names for which the calls of the first day have these costs."""
    need_order(office, names, order)
    need_costs(order, costs)
    if len(names) > MOST_DESKS_BY_COSTS:
        raise TooMany(len(names))
    levels = depths(office)
    now = {tuple(range(len(names))): 1}
    for cost in costs:
        after = {}
        for waiting, count in now.items():
            for desk, _, left in next_calls(office, waiting):
                if levels[desk] == cost:
                    after[left] = after.get(left, 0) + count
        now = after
    # The persons that are not called sit at the desks that are left in any way.
    return sum(now.values()) * factorial(len(names) - len(order))
