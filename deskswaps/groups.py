"""The groups into which an office falls if everybody is called."""

from math import factorial, lcm

from deskswaps.offices import need_office
from deskswaps.states import open_desks


def lower_desks(office):
    """Return for each desk the ascending list of its lower desks, empty where the desk is no center."""
    return open_desks(office, [True] * (len(office) + 1))


def common_multiple(numbers):
    """Return the least common multiple of the numbers, or 1 if there is none."""
    multiple = 1
    for number in numbers:
        multiple = lcm(multiple, number)
    return multiple


def groups(office):
    """Return the groups as a list of tuples (center, lower)."""
    need_office(office)
    return [(center, lower) for center, lower in enumerate(lower_desks(office)) if len(lower) > 0]


def is_alone(office):
    """Tell whether desk 0 is alone."""
    need_office(office)
    return len(lower_desks(office)[0]) == 0


def levels(office):
    """Return the greatest level of a group, or 0 if there is no group."""
    need_office(office)
    rows = lower_desks(office)
    # The level of each group stands at its center; a desk that is no center has 0.
    found = [0] * len(rows)
    for center in reversed(range(len(rows))):
        if len(rows[center]) > 0:
            desks = [center, *rows[center]]
            found[center] = 1 + max([found[index + 1] for index, upper in enumerate(office) if upper in desks])
    return max(found)


def period(office):
    """Return the number of days after which every recurrent state occurs again."""
    return common_multiple([len(lower) for _, lower in groups(office)])


def recurrent_count(office):
    """Return the number of recurrent states for one set of names and one order of all of them."""
    need_office(office)
    count = factorial(len(office) + 1)
    for _, lower in groups(office):
        # One of the persons of the group, the one that is called last, sits at its center.
        count //= len(lower) + 1
    return count
