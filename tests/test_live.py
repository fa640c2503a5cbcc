"""Points 3, 4, 7 and 10, and section 15: live offices."""

import itertools
import random
import unittest

from deskswaps.calls import after_call, run
from deskswaps.cycles import cycle_length
from deskswaps.errors import Full, NoCalls, NoDesk, NoName, NoOffice, NoOrder, NoSeating, Nothing
from deskswaps.far import seating_after
from deskswaps.live import LiveOffice
from deskswaps.settling import settled, settling_day
from deskswaps.states import is_recurrent
from tests.live_model import MOST, Model, drawn_operation, perform
from tests.support import (BAD_NAMES, BAD_OFFICES, BAD_ORDERS, BAD_SEATINGS, OFFICE, ORDER, START, EqualToAll,
                           NotShown, chain, check_each_error, check_error, check_errors, grown, names_for, odd_items,
                           odd_values, sample_offices, sample_states, star)

OPERATIONS = [('call', 'c'), ('days', 2), ('reorder', ('d', 'a')), ('add', 1, 'e'), ('remove',)]


def create(office, seating, order):
    return LiveOffice(office, seating, order=order)


def state_of(live):
    return live.office(), live.seating(), live.order()


def everything(live):
    return state_of(live), live.log(), len(live)


def starts():
    """Arguments of live offices with up to 40 desks."""
    return itertools.islice(sample_states(sample_offices(), 16), 0, None, 3)


class LiveTest(unittest.TestCase):

    def check(self, live, model):
        office, seating, order = model.state()
        self.assertEqual(state_of(live), (office, seating, order))
        self.assertEqual([type(part) for part in state_of(live)], [tuple] * 3)
        self.assertEqual(live.log(), model.log)
        self.assertIs(type(live.log()), list)
        self.assertTrue(all(type(operation) is tuple for operation in live.log()))
        self.assertEqual(len(live), len(seating))

    def test_examples(self):
        live = LiveOffice(OFFICE, START, order=('d',))
        live.days(2)
        self.assertEqual((live.seating(), len(live)), (('d', 'b', 'a', 'c'), 4))
        live = LiveOffice(OFFICE, START)
        live.call('c')
        self.assertEqual(live.seating(), ('c', 'b', 'a', 'd'))
        live.undo()
        self.assertEqual(live.seating(), START)
        live = LiveOffice(OFFICE, START, order=ORDER)
        live.days(MOST)
        self.assertEqual(live.seating(), ('c', 'a', 'd', 'b'))
        live.reorder(('b', 'a'))
        self.assertEqual(live.order(), ('b', 'a'))
        live = LiveOffice(OFFICE, START)
        live.add(1, 'e')
        self.assertEqual((live.office(), live.seating()), ((0, 0, 2, 1), ('a', 'b', 'c', 'd', 'e')))
        live = LiveOffice(OFFICE, START, order=ORDER)
        live.remove()
        self.assertEqual((live.seating(), live.order()), (('a', 'b', 'c'), ('a', 'b', 'c')))
        live = LiveOffice(OFFICE, START)
        live.call('c')
        live.remove()
        self.assertEqual(live.log(), [('call', 'c'), ('remove',)])

    def test_a_new_live_office(self):
        for office, seating, order in starts():
            live = LiveOffice(office, seating, order=order)
            self.assertEqual(everything(live), ((office, seating, order), [], len(seating)))
            self.assertEqual(LiveOffice(office, seating).order(), ())
        with self.assertRaises(TypeError):
            LiveOffice(OFFICE, START, ORDER)

    def test_up_to_sixteen_operations(self):
        for index, (office, seating, order) in enumerate(starts()):
            if len(seating) > 12 and index % 5:
                continue
            chance = random.Random(index)
            live, model = LiveOffice(office, seating, order=order), Model(office, seating, order)
            for _ in range(chance.randint(4, 16)):
                operation = drawn_operation(chance, model)
                model.log.append(operation)
                self.assertIs(perform(live, operation), None)
                self.check(live, model)
                if chance.random() < 0.2:
                    model.log.pop()
                    self.assertIs(live.undo(), None)
                    self.check(live, model)
            again = LiveOffice(office, seating, order=order)
            for operation in live.log():
                perform(again, operation)
            self.assertEqual(again, live)
            self.assertEqual(again.log(), live.log())

    def test_undo_down_to_nothing(self):
        for index, (office, seating, order) in enumerate(starts()):
            chance = random.Random(index)
            live, model = LiveOffice(office, seating, order=order), Model(office, seating, order)
            kept = [everything(live)]
            for _ in range(6):
                perform(live, drawn_operation(chance, model))
                model.start = state_of(live)
                kept.append(everything(live))
            while len(kept) > 1:
                self.assertEqual(everything(live), kept.pop())
                self.assertIs(live.undo(), None)
            self.assertEqual(everything(live), kept[0])
            for _ in range(2):
                check_error(self, Nothing, live.undo)
                self.assertEqual(everything(live), kept[0])

    def test_an_operation_after_undo(self):
        live = LiveOffice(OFFICE, START, order=ORDER)
        live.call('d')
        live.call('b')
        live.undo()
        live.add(3, 'x')
        self.assertEqual(live.log(), [('call', 'd'), ('add', 3, 'x')])
        live.undo()
        self.assertEqual(live.log(), [('call', 'd')])
        self.assertEqual(state_of(live), (OFFICE, ('a', 'b', 'd', 'c'), ORDER))
        live.undo()
        self.assertEqual(state_of(live), (OFFICE, START, ORDER))
        check_error(self, Nothing, live.undo)

    def test_two_hundred_operations(self):
        chance = random.Random(5)
        live, model = LiveOffice(grown(20, 1), names_for(20)), Model(grown(20, 1), names_for(20))
        kept = []
        for number in range(120):
            kept.append(everything(live))
            model.start = state_of(live)
            perform(live, drawn_operation(chance, model))
            self.assertEqual(len(live.log()), number + 1)
        for _ in range(80):
            live.undo()
            self.assertEqual(everything(live), kept.pop())
        live = LiveOffice((0,), ('a', 'b'))
        for number in range(200):
            live.call('ab'[number % 2])
        self.assertEqual(live.log(), [('call', 'a'), ('call', 'b')] * 100)
        self.assertEqual(live.seating(), ('b', 'a'))

    def test_a_changed_log_has_no_effect(self):
        live = LiveOffice(OFFICE, START, order=ORDER)
        live.call('c')
        first = live.log()
        first.append(('call', 'd'))
        second = live.log()
        self.assertEqual(second, [('call', 'c')])
        second.clear()
        third = live.log()
        live.days(3)
        self.assertEqual(third, [('call', 'c')])
        self.assertIsNot(live.log(), live.log())
        live.undo()
        self.assertEqual(live.log(), third)
        live.undo()
        self.assertEqual((live.log(), third), ([], [('call', 'c')]))

    def test_each_operation_in_the_log(self):
        live = LiveOffice(OFFICE, START)
        for operation in OPERATIONS:
            self.assertIs(perform(live, operation), None)
        self.assertEqual(live.log(), OPERATIONS)
        live.reorder(())
        live.days(MOST)
        self.assertEqual(live.log(), OPERATIONS + [('reorder', ()), ('days', MOST)])


class OperationsTest(unittest.TestCase):

    def test_call_does_what_after_call_does(self):
        for office, seating, order in starts():
            live = LiveOffice(office, seating, order=order)
            for name in (seating[-1], seating[0], seating[len(seating) // 2], seating[-1]):
                expected = after_call(office, live.seating(), name)
                live.call(name)
                self.assertEqual(state_of(live), (office, expected, order))

    def test_days_does_what_run_and_seating_after_do(self):
        for office, seating, order in starts():
            for days in (1, 2, 3, 50, 10 ** 12, 10 ** 28):
                live = LiveOffice(office, seating, order=order)
                live.days(days)
                self.assertEqual(live.seating(), seating_after(office, seating, order, days * len(order)))
                if days <= 50:
                    self.assertEqual(live.seating(), run(office, seating, order, days * len(order)))
                self.assertEqual((live.office(), live.order()), (office, order))

    def test_days_add_up(self):
        for office, seating, order in starts():
            for one, other in ((1, 1), (2, 5), (10 ** 20, 3), (7, MOST - 7), (MOST // 2, MOST // 2)):
                live, both = [LiveOffice(office, seating, order=order) for _ in range(2)]
                live.days(one)
                live.days(other)
                both.days(one + other)
                self.assertEqual(live, both)
                self.assertEqual(len(live.log()), len(both.log()) + 1)

    def test_after_the_settling_day(self):
        for office, seating, order in starts():
            live = LiveOffice(office, seating, order=order)
            if settling_day(office, seating, order) > 0:
                live.days(settling_day(office, seating, order))
            self.assertEqual(live.seating(), settled(office, seating, order))
            self.assertIs(is_recurrent(*state_of(live)), True)
            before = state_of(live)
            live.days(cycle_length(*before))
            self.assertEqual(state_of(live), before)

    def test_days_with_an_empty_order(self):
        for days in (1, 5, MOST):
            live = LiveOffice(OFFICE, START)
            self.assertIs(live.days(days), None)
            self.assertEqual(everything(live), ((OFFICE, START, ()), [('days', days)], 4))
            live.undo()
            self.assertEqual(live.log(), [])

    def test_a_desk_that_is_added_and_removed_leaves_no_trace(self):
        for index, (office, seating, order) in enumerate(starts()):
            if len(seating) == 40:
                continue
            live, other = [LiveOffice(office, seating, order=order) for _ in range(2)]
            live.add(index % len(seating), 'zzzzzzzz')
            self.assertEqual(state_of(live), ((*office, index % len(seating)), (*seating, 'zzzzzzzz'), order))
            self.assertNotEqual(live, other)
            for one in (live, other):
                one.days(1 + index % 9)
                one.call(seating[index % len(seating)])
            live.remove()
            self.assertEqual(live, other)

    def test_remove_takes_the_person_at_the_desk(self):
        live = LiveOffice(OFFICE, START, order=('d', 'a', 'c'))
        live.call('d')
        live.remove()
        self.assertEqual(state_of(live), ((0, 0), ('a', 'b', 'd'), ('d', 'a')))
        live.remove()
        live.remove()
        self.assertEqual(state_of(live), ((), ('a',), ('a',)))
        check_error(self, NoDesk, live.remove)
        self.assertEqual(live.log(), [('call', 'd')] + [('remove',)] * 3)
        live.undo()
        self.assertEqual(state_of(live), ((0,), ('a', 'b'), ('a',)))

    def test_a_name_that_is_free_again(self):
        live = LiveOffice(OFFICE, START, order=ORDER)
        live.remove()
        live.add(0, 'd')
        # The order stays as it is: a new person is silent.
        self.assertEqual(state_of(live), ((0, 0, 0), START, ('a', 'b', 'c')))
        live.reorder(('d', 'a'))
        self.assertEqual(live.order(), ('d', 'a'))

    def test_from_one_desk_to_forty_and_back(self):
        names = names_for(41)
        live = LiveOffice((), names[:1])
        for desk, name in enumerate(names[1:40]):
            live.add(desk, name)
            self.assertEqual(len(live), desk + 2)
        self.assertEqual(state_of(live), (chain(40), names[:40], ()))
        check_error(self, Full, live.add, 0, names[40])
        for left in range(39, 0, -1):
            live.remove()
            self.assertEqual(len(live), left)
        check_error(self, NoDesk, live.remove)
        self.assertEqual(len(live.log()), 78)

    def test_operations_on_one_do_not_affect_another(self):
        one, other = [LiveOffice(OFFICE, START, order=ORDER) for _ in range(2)]
        before = everything(other)
        for operation in OPERATIONS[:1] + [('reorder', ('a', 'b'))] + OPERATIONS[3:]:
            perform(one, operation)
            self.assertEqual(everything(other), before)
        check_error(self, Nothing, other.undo)
        one.undo()
        self.assertEqual(everything(other), before)

    def test_the_same_question_again(self):
        for office, seating, order in itertools.islice(starts(), 50):
            live = LiveOffice(office, seating, order=order)
            live.days(3)
            self.assertEqual(everything(live), everything(live))


class EqualityTest(unittest.TestCase):

    def check(self, one, other, expected):
        self.assertIs(one == other, expected)
        self.assertIs(other == one, expected)
        self.assertIs(one != other, not expected)
        self.assertIs(other != one, not expected)

    def test_example(self):
        one, other = LiveOffice(OFFICE, START), LiveOffice(OFFICE, START)
        one.call('a')
        self.check(one, other, True)

    def test_the_log_does_not_matter(self):
        for office, seating, order in starts():
            one, other = [LiveOffice(office, seating, order=order) for _ in range(2)]
            self.check(one, other, True)
            self.check(one, one, True)
            one.call(seating[0])
            one.reorder(order)
            self.check(one, other, True)
            one.reorder(order[::-1])
            self.check(one, other, order == order[::-1])

    def test_office_seating_and_order_matter(self):
        choices = list(itertools.product([(0, 0), (0, 1)], [('a', 'b', 'c'), ('b', 'a', 'c'), ('a', 'b', 'd')],
                                         [(), ('a',), ('a', 'b'), ('b', 'a')]))
        for one, other in itertools.product(choices, repeat=2):
            self.check(create(*one), create(*other), one == other)
        self.check(LiveOffice((), ('a',)), LiveOffice((0,), ('a', 'b')), False)

    def test_any_other_value(self):
        live = LiveOffice(OFFICE, START, order=ORDER)
        for value in odd_values() + [state_of(live), OFFICE, START, 4, 10 ** 36, [live], (live,), {0: live}, 'abcd']:
            self.assertIs(live == value, False)
            self.assertIs(live != value, True)
            if not isinstance(value, EqualToAll):
                self.assertIs(value == live, False)

    def test_equal_again_by_other_operations(self):
        one, other = LiveOffice(OFFICE, START), LiveOffice((0, 0), START[:3], order=('a',))
        self.check(one, other, False)
        other.add(2, 'd')
        self.check(one, other, False)
        other.reorder(())
        self.check(one, other, True)
        other.undo()
        self.check(one, other, False)


class ErrorsTest(unittest.TestCase):

    def check(self, live, error, operation, *values):
        """Check that an operation raises the error and changes nothing."""
        before = everything(live)
        check_error(self, error, getattr(live, operation), *values)
        self.assertEqual(everything(live), before)

    def test_creation(self):
        check_each_error(self, create, (OFFICE, BAD_OFFICES + odd_values(), NoOffice),
                         (START, BAD_SEATINGS + odd_values(), NoSeating), (ORDER, BAD_ORDERS + odd_values(), NoOrder))
        check_errors(self, create, (OFFICE, BAD_OFFICES, NoOffice), (START, BAD_SEATINGS, NoSeating),
                     (ORDER, BAD_ORDERS, NoOrder))
        check_errors(self, LiveOffice, (OFFICE, BAD_OFFICES + odd_values(), NoOffice),
                     (START, BAD_SEATINGS, NoSeating))

    def lives(self):
        """A live office without operations, and one with some of them."""
        other = LiveOffice(OFFICE, ('c', 'a', 'b', 'd'), order=('d', 'a'))
        other.call('d')
        other.days(3)
        return LiveOffice(OFFICE, START), other

    def test_call(self):
        for live in self.lives():
            for name in ['e', 'ab', 'abcd', 0, ('a',), ['a'], START] + BAD_NAMES + odd_values():
                self.check(live, NoName, 'call', name)

    def test_days(self):
        bad = [0, -1, MOST + 1, True, False, None, '4', b'4', (), (4,), [], [4], {}, 10 ** 36, -10 ** 36, 10 ** 5000,
               EqualToAll(), NotShown()]
        for live in self.lives():
            for days in bad + odd_values():
                self.check(live, NoCalls, 'days', days)
            for days in (1, MOST):
                self.assertIs(live.days(days), None)

    def test_reorder(self):
        for live in self.lives():
            for order in BAD_ORDERS + odd_values():
                self.check(live, NoOrder, 'reorder', order)
            live.remove()
            self.check(live, NoOrder, 'reorder', ORDER)

    def test_add(self):
        bad_desks = [4, -1, True, False, 10 ** 36, -10 ** 36, '0', 'a', (0,), [0], EqualToAll(), NotShown()]
        bad_names = ['a', 'd', 0, ('e',), ['e'], START] + BAD_NAMES
        for live in self.lives():
            before = everything(live)
            check_errors(self, live.add, (0, bad_desks, NoDesk), ('e', bad_names, NoName))
            for value in odd_items():
                self.check(live, NoDesk, 'add', value, 'e')
                self.check(live, NoDesk, 'add', value, value)
                self.check(live, NoName, 'add', 3, value)
            self.assertEqual(everything(live), before)
        live = LiveOffice(star(40), names_for(40))
        for name in ('a', 'zzzzzzzz'):
            if name not in live.seating():
                self.check(live, Full, 'add', 39, name)
        self.check(live, NoDesk, 'add', 40, 'zzzzzzzz')
        self.check(live, NoDesk, 'add', -1, '')
        self.check(live, NoName, 'add', 39, live.seating()[3])
        self.check(live, NoName, 'add', 0, 'Z')

    def test_remove_and_undo(self):
        live = LiveOffice((), ('a',), order=('a',))
        self.check(live, NoDesk, 'remove')
        self.check(live, Nothing, 'undo')
        live.call('a')
        self.check(live, NoDesk, 'remove')
        live.undo()
        self.check(live, Nothing, 'undo')

    def test_errors_are_no_operations(self):
        live = LiveOffice(OFFICE, START)
        live.call('b')
        for operation in (('call', 'x'), ('days', 0), ('reorder', ('x',)), ('add', 9, 'x'), ('add', 0, 'a')):
            self.check(live, {'call': NoName, 'days': NoCalls, 'reorder': NoOrder}.get(
                operation[0], NoDesk if operation[1] == 9 else NoName), *operation)
        live.undo()
        self.assertEqual(everything(live), ((OFFICE, START, ()), [], 4))

    def test_arguments_are_not_changed(self):
        office, seating, order = [0, 0, 2], ['a', 'b', 'c', 'd'], ['a', 'b']
        check_error(self, NoOffice, create, office, seating, order)
        check_error(self, NoSeating, create, OFFICE, seating, order)
        check_error(self, NoOrder, create, OFFICE, START, order)
        live = LiveOffice(OFFICE, START)
        check_error(self, NoOrder, live.reorder, order)
        check_error(self, NoName, live.call, order)
        check_error(self, NoDesk, live.add, order, order)
        self.assertEqual((office, seating, order), ([0, 0, 2], ['a', 'b', 'c', 'd'], ['a', 'b']))


if __name__ == '__main__':
    unittest.main()
