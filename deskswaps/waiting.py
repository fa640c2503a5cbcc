"""A first day seen from the desks.

A person is waiting until it is called. Who waits at which desk is left open:
the desk of each call, one after the other, tells it. So a day with all its
seatings is followed by the desks of the waiting persons alone, and different
desks of the calls stand for different desks at the beginning.
"""


def next_calls(office, waiting):
    """Return what the next call may be, as a list of tuples (desk, passed, left).

    The tuple `waiting` contains the desks of the waiting persons. Any of them
    may be the called one: `desk` is its desk, `passed` tells whether it passes
    a waiting person, and `left` are the desks of the waiting persons afterwards.
    """
    found = []
    for desk in waiting:
        passed = desk > 0 and office[desk - 1] in waiting
        # A waiting person that is passed comes to the desk at which the called person sat.
        gone = office[desk - 1] if passed else desk
        found.append((desk, passed, tuple([one for one in waiting if one != gone])))
    return found
