"""What several tests use: samples, an independent simulation, and checks of errors."""

import copy
import itertools
import random

from deskswaps.errors import OfficeError

OFFICE = (0, 0, 2)
ORDER = ('a', 'b', 'c', 'd')
START = ('a', 'b', 'c', 'd')


class EqualToAll:
    """Claims to be equal to every value; it is of none of the listed kinds."""

    def __eq__(self, other):
        return True

    def __hash__(self):
        return 0


class NotShown:
    """Has no text, so it stands in no message."""

    def __repr__(self):
        raise RuntimeError('not to be shown')


def nested(levels):
    value = ()
    for _ in range(levels):
        value = (value,)
    return value


def odd_values():
    """Values that are no integer, no name and no tuple of integers or names."""
    return [
        None, True, False, '', '0', ' ', 'A', 'abcdefghi', 'a b', 'a\n', '\xe4', b'', b'a', [], [0], ['a'],
        {}, {0: 0}, {'a': 'b'}, set(), {0}, frozenset(), range(0), range(1), iter(()), (i for i in (0,)),
        int, len, object(), Ellipsis, NotImplemented, EqualToAll(), NotShown(), nested(1), nested(40),
        [[[]]], (None,), (True,), (False,), ('',), ('A',), ([],), ({},), ((0,),), (EqualToAll(),), (NotShown(),),
    ]


def odd_items():
    """Values that are neither an integer nor a name."""
    return [value for value in odd_values() if not isinstance(value, tuple)] + [(), (0,), ('a',), nested(39)]


BAD_NAMES = ['', 'abcdefghi', 'A', 'Ab', 'a1', '1', 'a b', ' a', 'a-b', 'a_b', 'a\n', '\n', 'a.', 'a\x00',
             '\xe4', '\xdf', '\u03b1', '\u0131', '\uff41', '\xaa']
BAD_OFFICES = [(1,), (0, True), (0,) * 40, [0, 0, 2], None, 'abc', NotShown()]
BAD_SEATINGS = [(), ('a', 'b', 'c'), ('a', 'b', 'c', 'd', 'e'), ('a', 'b', 'c', 'a'), ['a', 'b', 'c', 'd'], 'abcd',
                None, ('a', 'b', 'c', 'D'), ('a', 'b', 'c', ''), ('a', 'b', 'c', ['d']), (0, 1, 2, 3), NotShown()]
BAD_ORDERS = [('e',), ('a', 'a'), ('a', 'b', 'c', 'd', 'a'), ['a', 'b'], [], 'a', 'abcd', '', None, ('A',), ('',),
              (0,), (['a'],), {}, (None,), (EqualToAll(),), NotShown()]
BAD_CALLS = [-1, 2001, True, False, None, '4', b'4', (), (4,), [], [4], {}, 10 ** 30, 10 ** 36, -10 ** 36,
             10 ** 5000, EqualToAll(), NotShown()]
BAD_FAR_CALLS = [10 ** 30 + 1, -1, True, False, None, '4', b'4', (), (4,), [], [4], {}, 10 ** 36, -10 ** 36,
                 10 ** 5000, EqualToAll(), NotShown()]


def chain(many):
    return tuple(range(many - 1))


def star(many):
    return (0,) * (many - 1)


def binary(many):
    return tuple(index // 2 for index in range(many - 1))


def grown(many, seed):
    chance = random.Random(1000 * many + seed)
    return tuple(chance.randint(0, index) for index in range(many - 1))


def group_office(numbers):
    """An office whose groups, if everybody is called, have these numbers of lower desks."""
    office = []
    for index, number in enumerate(numbers):
        center = len(office)
        # Behind the lower desks comes the center of the next group.
        office += [center] * (number + (index < len(numbers) - 1))
    return tuple(office)


def offices_with(many):
    """Offices with this number of desks, each once."""
    shapes = [chain(many), star(many), binary(many)] + [grown(many, seed) for seed in range(3)]
    return list(dict.fromkeys(shapes))


def sample_offices():
    return [office for many in range(1, 41) for office in offices_with(many)]


def names_for(many, seed=0):
    """Different names of one to eight letters, in no particular order."""
    letters = 'abcdefghijklmnopqrstuvwxyz'
    chance = random.Random(many + 100 * seed)
    names = {}
    while len(names) < many:
        names[''.join(chance.choice(letters) for _ in range(chance.randint(1, 8)))] = True
    return tuple(names)


def orders_for(seating, seed=0):
    """Orders of all, of some and of none of the persons."""
    chance = random.Random(len(seating) + 100 * seed)
    everybody = list(seating)
    chance.shuffle(everybody)
    some = everybody[:(len(everybody) + 1) // 2]
    return list(dict.fromkeys([seating, tuple(everybody), tuple(some), tuple(everybody[:1]), ()]))


def sample_states(offices, seed):
    """A state of each of the offices, with orders of all, of some and of none of the persons."""
    for index, office in enumerate(offices):
        names = names_for(len(office) + 1, seed)
        for order in orders_for(names, index):
            yield office, tuple(random.Random(index + seed).sample(names, len(names))), order


def walk_up(office, desk):
    """The desks from a desk up to desk 0, by a table of superiors and recursion."""
    superiors = {index: value for index, value in enumerate(office, 1)}
    if desk not in superiors:
        return [desk]
    return [desk] + walk_up(office, superiors[desk])


class Persons:
    """An independent simulation: it keeps the desk of each person, not the person at each desk."""

    def __init__(self, office, seating):
        self.superiors = dict(enumerate(office, 1))
        self.desks = {name: desk for desk, name in enumerate(seating)}

    def call(self, name):
        """Carry out a call and return its row of the record."""
        here = self.desks[name]
        there = self.superiors.get(here)
        if there is None:
            return (name, here, None)
        passed, = [other for other, desk in self.desks.items() if desk == there]
        self.desks.update({name: there, passed: here})
        return (name, here, passed)

    def seating(self):
        return tuple(sorted(self.desks, key=self.desks.get))


def simulate(office, seating, order, calls):
    """The rows of these calls, and the seatings before the first and after each of them."""
    persons = Persons(office, seating)
    rows, seatings = [], [seating]
    for name in itertools.islice(itertools.cycle(order), calls):
        rows.append(persons.call(name))
        seatings.append(persons.seating())
    return rows, seatings


def check_error(case, error, function, *args):
    """Check that the call raises this error, of its own class and of no other."""
    with case.assertRaises(OfficeError) as caught:
        function(*args)
    case.assertIs(type(caught.exception), error)


def check_errors(case, function, *parameters):
    """Check the listed errors and their order.

    Each parameter is a tuple (good, bad, error): a good value, a list of bad
    ones, and the error that they raise (None if there is none). Of every
    combination with a bad value the first bad one decides.
    """
    for choice in itertools.product(*[[(good, None)] + [(value, error) for value in bad]
                                      for good, bad, error in parameters]):
        expected = [error for _, error in choice if error is not None]
        if expected:
            check_error(case, expected[0], function, *[value for value, _ in choice])


def outcome(function, *args):
    """What a call returns, or the class of the error that it raises."""
    try:
        return function(*args)
    except OfficeError as error:
        return type(error)


def check_unchanged(case, function, *args):
    """Check that a call leaves its arguments as they were, and that the same call again has the same outcome."""
    before = copy.deepcopy(args)
    first = outcome(function, *args)
    case.assertEqual(args, before)
    case.assertEqual(outcome(function, *args), first)
    case.assertEqual(args, before)


def check_new_list(case, function, *args):
    """Check that two calls return different lists, of which one may be changed without the other."""
    first, second = function(*args), function(*args)
    case.assertIs(type(first), list)
    case.assertEqual(first, second)
    case.assertIsNot(first, second)
    before = list(second)
    first.append('more')
    case.assertEqual(second, before)
    case.assertEqual(function(*args), before)


def check_each_error(case, function, *parameters):
    """Check the listed errors: each bad value alone, and the first three of each parameter together.

    The parameters are those of check_errors, which tries all combinations.
    """
    for index, (_, bad, error) in enumerate(parameters):
        for value in bad:
            args = [good for good, _, _ in parameters]
            args[index] = value
            check_error(case, error, function, *args)
    check_errors(case, function, *[(good, bad[:3], error) for good, bad, error in parameters])
