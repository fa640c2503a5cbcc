"""Offices: every desk but desk 0 has a superior desk.

An office is the tuple of the superiors of the desks 1, 2, 3 and so on.
"""

from deskswaps.errors import NoDesk, NoOffice
from deskswaps.kinds import is_number

MOST_DESKS = 40


def is_office(value):
    """Tell whether the value is an office; any value may be asked."""
    if not isinstance(value, tuple) or len(value) >= MOST_DESKS:
        return False
    return all([is_number(item, 0, index) for index, item in enumerate(value)])


def need_office(office):
    """Raise NoOffice unless the value is an office."""
    # No message shows the value: it may be one that cannot be shown.
    if not is_office(office):
        raise NoOffice("this is not an office")


def need_desk(office, desk):
    """Raise NoDesk unless the value is a desk of this office."""
    if not is_number(desk, 0, len(office)):
        raise NoDesk("this is not a desk of the office")


def superior(office, desk):
    """Return the superior of a desk, or None for desk 0."""
    need_office(office)
    need_desk(office, desk)
    if desk == 0:
        return None
    return office[desk - 1]


def below(office, desk):
    """Return the desks directly below a desk as an ascending list."""
    need_office(office)
    need_desk(office, desk)
    return [index + 1 for index, upper in enumerate(office) if upper == desk]


def depth(office, desk):
    """Return the depth of a desk."""
    return len(path_up(office, desk)) - 1


def path_up(office, desk):
    """Return the desks from a desk up to desk 0, both included, as a list."""
    need_office(office)
    need_desk(office, desk)
    path = [desk]
    while path[-1] > 0:
        path.append(office[path[-1] - 1])
    return path
