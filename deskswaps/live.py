"""A live office: an office, a seating and an order that change by operations, which can be undone."""

from deskswaps.calls import MOST_FAR_CALLS, carry_out, need_name, need_order
from deskswaps.errors import Full, NoCalls, NoDesk, NoName, Nothing
from deskswaps.kinds import is_name, is_number
from deskswaps.offices import MOST_DESKS, need_desk
from deskswaps.settling import after_days


class LiveOffice:
    """An office with a seating and an order."""

    def __init__(self, office, seating, *, order=()):
        need_order(office, seating, order)
        self._state = (office, seating, order)
        # Tuples of an operation and the state before it.
        self._past = []

    def _perform(self, operation, office, seating, order):
        """Note the operation and take over what it leads to."""
        self._past.append((operation, self._state))
        self._state = (office, seating, order)

    def call(self, name):
        """Call one person."""
        office, seating, order = self._state
        need_name(seating, name)
        after, _ = carry_out(office, seating, [name])
        self._perform(("call", name), office, after, order)

    def days(self, days):
        """Run this number of days of the current order."""
        office, seating, order = self._state
        if not is_number(days, 1, MOST_FAR_CALLS):
            raise NoCalls("this is not a number of days")
        self._perform(("days", days), office, after_days(office, seating, order, days), order)

    def reorder(self, order):
        """Set another order."""
        office, seating, _ = self._state
        need_order(office, seating, order)
        self._perform(("reorder", order), office, seating, order)

    def add(self, desk, name):
        """Add a desk directly below a desk, with a new person."""
        office, seating, order = self._state
        need_desk(office, desk)
        if not is_name(name) or name in seating:
            raise NoName("this is not a name that is free")
        if len(seating) >= MOST_DESKS:
            raise Full("there is no room for another desk")
        self._perform(("add", desk, name), (*office, desk), (*seating, name), order)

    def remove(self):
        """Remove the desk with the greatest number and its person."""
        office, seating, order = self._state
        if len(office) == 0:
            raise NoDesk("only desk 0 is left")
        rest = tuple([name for name in order if name != seating[-1]])
        self._perform(("remove",), office[:-1], seating[:-1], rest)

    def undo(self):
        """Revert the last operation that is not undone."""
        if len(self._past) == 0:
            raise Nothing("there is no operation to undo")
        _, self._state = self._past.pop()

    def office(self):
        """Return the current office."""
        return self._state[0]

    def seating(self):
        """Return the current seating."""
        return self._state[1]

    def order(self):
        """Return the current order."""
        return self._state[2]

    def log(self):
        """Return the operations that are not undone as a list of tuples."""
        return [operation for operation, _ in self._past]

    def __len__(self):
        return len(self._state[1])

    def __eq__(self, other):
        if not isinstance(other, LiveOffice):
            return False
        return self._state == other._state
