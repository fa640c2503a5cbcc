"""An independent live office, and operations drawn for it."""

from tests.model import Orbit
from tests.support import Persons, names_for

MOST = 10 ** 30


class Model:
    """Keeps the start and the operations that are not undone, and goes through all of them for every question."""

    def __init__(self, office, seating, order=()):
        self.start = (office, seating, order)
        self.log = []

    def state(self):
        office, seating, order = self.start
        for kind, *values in self.log:
            if kind == 'call':
                persons = Persons(office, seating)
                persons.call(*values)
                seating = persons.seating()
            elif kind == 'days':
                seating = Orbit(office, seating, order).state(*values)
            elif kind == 'reorder':
                order, = values
            elif kind == 'add':
                office, seating = office + (values[0],), seating + (values[1],)
            else:
                order = tuple(name for name in order if name != seating[-1])
                office, seating = office[:-1], seating[:-1]
        return office, seating, order


def drawn_operation(chance, model):
    """An operation that raises no error."""
    office, seating, _ = model.state()
    kinds = ['call', 'call', 'days', 'days', 'reorder', 'add', 'remove']
    kind = chance.choice([one for one in kinds if (one != 'remove' or office) and (one != 'add' or len(office) < 39)])
    if kind == 'call':
        return ('call', chance.choice(seating))
    if kind == 'days':
        return ('days', chance.choice([1, 2, 3, 7, 40, chance.randint(1, 10 ** 6), MOST, MOST - 1, 10 ** 29 + 3]))
    if kind == 'reorder':
        return ('reorder', tuple(chance.sample(seating, chance.randint(0, len(seating)))))
    if kind == 'add':
        free = [name for name in names_for(60, chance.randint(0, 3)) if name not in seating]
        return ('add', chance.randint(0, len(office)), chance.choice(free))
    return ('remove',)


def perform(live, operation):
    """Perform the operation of a log on a live office, and return what it returns."""
    kind, *values = operation
    return getattr(live, kind)(*values)
