"""Points 13, 15 and 17, and section 17: the console."""

import random
import re
import unittest

from deskswaps.console import Console
from deskswaps.costs import final_cost
from deskswaps.cycles import cycle_length
from deskswaps.errors import NoCalls, NoName, NoOrder, NoRow, Nothing, NoText
from deskswaps.far import desk_of
from deskswaps.live import LiveOffice
from deskswaps.settling import groups_of, settling_day
from deskswaps.texts import show_office
from tests.live_model import MOST, Model, drawn_operation
from tests.support import (BAD_NAMES, OFFICE, ORDER, START, EqualToAll, NotShown, check_error, group_office, grown,
                           names_for, odd_values, outcome, sample_offices, sample_states, star)

QUESTIONS = ['seating', 'settle', 'cycle', 'cost', 'groups']
NUMERAL = r'(0|[1-9][0-9]{0,30})'
NAME = r'[a-z]{1,8}'
# The rows that need a live office.
ROW = re.compile(rf'order( {NAME})*|call {NAME}|days {NUMERAL}|undo|at {NAME} {NUMERAL}|' + '|'.join(QUESTIONS))
OPEN = 'open - a;0 b;0 c;2 d'


def opening(office, seating):
    return 'open ' + show_office(office, seating)[:-1].replace('\n', ';')


def opened(office=OFFICE, seating=START, order=ORDER):
    console = Console()
    console.say(opening(office, seating))
    console.say(' '.join(('order',) + order))
    return console


def answers(console):
    """What a console tells about its live office."""
    return [console.say(row) for row in QUESTIONS]


def expected_answers(live):
    state = (live.office(), live.seating(), live.order())
    groups = ';'.join(f"{center}:{','.join(map(str, lower))}" for center, lower, _ in groups_of(*state))
    return [' '.join(live.seating()), str(settling_day(*state)), str(cycle_length(*state)), str(final_cost(*state)),
            groups]


class ConsoleTest(unittest.TestCase):

    def check_ok(self, console, row):
        self.assertEqual(console.say(row), 'ok')

    def test_example(self):
        console = Console()
        self.check_ok(console, OPEN)
        self.check_ok(console, 'order a b c d')
        self.assertEqual(console.say('groups'), '0:1;2:3')

    def test_each_row(self):
        console = Console()
        self.check_ok(console, OPEN)
        self.assertEqual(answers(console), ['a b c d', '0', '1', '0', ''])
        self.check_ok(console, 'order a b c d')
        self.assertEqual(answers(console), ['a b c d', '1', '1', '6', '0:1;2:3'])
        self.assertEqual(console.say('at b 4'), '3')
        self.assertEqual(console.say('at b 0'), '1')
        self.check_ok(console, 'days 1')
        self.assertEqual(answers(console), ['c a d b', '0', '1', '6', '0:1;2:3'])
        self.check_ok(console, 'call d')
        self.assertEqual(console.say('seating'), 'd a c b')
        self.check_ok(console, 'undo')
        self.assertEqual(console.say('seating'), 'c a d b')
        self.check_ok(console, 'order')
        self.assertEqual(answers(console), ['c a d b', '0', '1', '0', ''])
        self.assertEqual(console.say('at b ' + str(MOST)), '3')
        self.check_ok(console, 'undo')
        self.assertEqual(console.say('groups'), '0:1;2:3')
        self.check_ok(console, 'open - a;0 b;0 c;0 d')
        self.check_ok(console, 'order a b c d')
        self.assertEqual(console.say('groups'), '0:1,2,3')
        self.assertEqual(console.say('cycle'), '3')

    def test_one_desk(self):
        console = Console()
        self.check_ok(console, 'open - abcdefgh')
        self.assertEqual(answers(console), ['abcdefgh', '0', '1', '0', ''])
        self.check_ok(console, 'order abcdefgh')
        self.check_ok(console, 'days 1000000000000000000000000000000')
        self.assertEqual(console.say('at abcdefgh 1000000000000000000000000000000'), '0')

    def test_questions_of_offices_of_every_size(self):
        for index, (office, seating, order) in enumerate(sample_states(sample_offices(), 21)):
            if index % 2 == 0:
                console = opened(office, seating, order)
                live = LiveOffice(office, seating, order=order)
                for _ in range(2):
                    found = answers(console)
                    self.assertTrue(all(type(answer) is str for answer in found))
                    self.assertEqual(found, expected_answers(live))
                for name in (seating[0], seating[-1]):
                    for calls in (0, 1, 7 * len(order) + 3, MOST):
                        found = console.say(f'at {name} {calls}')
                        self.assertEqual(found, str(desk_of(office, seating, order, name, calls)))
                self.assertEqual(console.say('seating'), ' '.join(seating))

    def test_a_long_cycle(self):
        office = group_office([3, 5, 7, 8, 11])
        console = opened(office, names_for(39), names_for(39))
        self.assertEqual(console.say('cycle'), '9240')
        self.check_ok(console, 'days 1000000000000000000000000000000')
        self.assertEqual(console.say('settle'), '0')

    def test_open_discards_the_first_office_and_its_log(self):
        console = opened()
        self.check_ok(console, 'call d')
        self.check_ok(console, 'open - x;0 y')
        self.assertEqual(console.say('seating'), 'x y')
        check_error(self, Nothing, console.say, 'undo')
        self.assertEqual(console.say('groups'), '')
        check_error(self, NoName, console.say, 'call a')

    def test_another_console_is_not_affected(self):
        one, other = opened(), opened()
        empty = Console()
        for row in ('call d', 'days 2', 'order b', 'undo', 'open - x;0 y', 'call y'):
            self.check_ok(one, row)
            self.assertEqual(answers(other), ['a b c d', '1', '1', '6', '0:1;2:3'])
            check_error(self, NoRow, empty.say, 'seating')
        self.check_ok(other, 'undo')
        check_error(self, Nothing, other.say, 'undo')

    def row_for(self, operation):
        kind, *values = operation
        if kind == 'reorder':
            return ' '.join(('order',) + values[0])
        return ' '.join([kind] + [str(value) for value in values])

    def test_a_console_and_a_live_office_row_by_row(self):
        for index, (office, seating, order) in enumerate(sample_states(sample_offices()[::29], 22)):
            chance = random.Random(index)
            console, live = opened(office, seating, order), LiveOffice(office, seating)
            live.reorder(order)
            for _ in range(chance.choice([10, 30, 188])):
                model = Model(live.office(), live.seating(), live.order())
                operation = drawn_operation(chance, model)
                while operation[0] in ('add', 'remove'):
                    operation = drawn_operation(chance, model)
                if chance.random() < 0.15 and live.log():
                    live.undo()
                    self.check_ok(console, 'undo')
                else:
                    getattr(live, operation[0])(*operation[1:])
                    self.check_ok(console, self.row_for(operation))
                self.assertEqual(console.say('seating'), ' '.join(live.seating()))
                if chance.random() < 0.1:
                    self.assertEqual(answers(console), expected_answers(live))
            self.assertEqual(answers(console), expected_answers(live))


class RowsTest(unittest.TestCase):
    """Which rows are valid."""

    def check(self, row):
        """Check a row with and without a live office, and that an error changes nothing."""
        empty, console = Console(), opened()
        if row.startswith('open ') and '\n' not in row:
            self.assertIn(outcome(empty.say, row), ('ok', NoText))
            return
        check_error(self, NoRow, empty.say, row)
        check_error(self, NoRow, empty.say, 'seating')
        if ROW.fullmatch(row) is None:
            check_error(self, NoRow, console.say, row)
            self.check_same(console)
            return
        found = outcome(console.say, row)
        self.assertIn(found if type(found) is not str else str, (str, NoName, NoOrder, NoCalls, Nothing))
        if type(found) is not str or row.split()[0] not in ('order', 'call', 'days', 'undo'):
            self.check_same(console)

    def check_same(self, console):
        """Check that a console is as it was opened."""
        self.assertEqual(answers(console), ['a b c d', '1', '1', '6', '0:1;2:3'])
        self.assertEqual(console.say('undo'), 'ok')
        check_error(self, Nothing, console.say, 'undo')

    def test_rows_that_are_not_valid(self):
        rows = ['', ' ', 'open', 'Open - a', 'openx - a', ' open - a', 'opens', 'OPEN - a', 'open\t- a', 'order ',
                'opn - a', 'open- a', 'oopen - a', 'open-a', 'pen - a', '- a', '- a;0 b', 'open;- a', 'reopen - a',
                'order  a', ' order a', 'order a ', 'order A', 'order a,b', 'order 1', 'order a1', 'order abcdefghi',
                'orders a', 'call', 'call ', 'call  a', 'call a ', 'call a b', 'call A', 'call 1', 'call abcdefghi',
                'Call a', 'days', 'days ', 'days 00', 'days 01', 'days -1', 'days +1', 'days 1.0', 'days 1e3',
                'days 1_0', 'days a', 'days 1 2', 'days  1', 'days ' + '1' * 32, 'days 0x1', 'days \u0661',
                'days \uff11', 'days \xb2', 'days 1 ', 'undo ', 'undo 1', 'undo a', ' undo', 'Undo', 'undoo', 'und',
                'seating ', 'seating a', 'settle 1', 'cycle ', 'cost a', 'groups 0', 'group', 'at', 'at a', 'at 1 a',
                'at a  1', 'at a 01', 'at a -1', 'at a 1 ', 'at a b', 'at a 1 2', 'at A 1', 'at abcdefghi 1',
                'at a ' + '1' * 32, 'at a 00', 'log', 'len', 'add 0 e', 'remove', 'run', 'order;a', 'a', '0', '-',
                'call \xe4', 'call a\u2003', 'seating\r', 'call\ta', 'call\xa0a', 'order a\xa0b', 'reorder a', 'say',
                'at', 'at  ', 'help', 'exit', 'order a b c d\n', 'seating\n', '\n', 'call a\n', '\nseating',
                'open - a\n', 'open - a\n0 b', 'open \n', 'open - a;0 b\n', 'days 1\n', 'at a 1\n']
        for row in rows:
            with self.subTest(row):
                self.assertTrue(ROW.fullmatch(row) is None or '\n' in row)
                check_error(self, NoRow, Console().say, row)
                console = opened()
                check_error(self, NoRow, console.say, row)
                self.check_same(console)

    def test_values_of_other_kinds(self):
        values = odd_values() + [0, 10 ** 36, b'seating', ['seating'], ('seating',), ['call', 'a'], {'seating': 1},
                                 EqualToAll(), NotShown(), OPEN.encode(), [OPEN], LiveOffice(OFFICE, START)]
        console = opened()
        for value in values:
            check_error(self, NoRow, Console().say, value)
            check_error(self, NoRow, console.say, value)
        self.check_same(console)

    def test_every_valid_row_needs_a_live_office(self):
        for row in ['order', 'order a', 'order a b c d', 'order a a', 'order zz', 'call a', 'call zz', 'days 1',
                    'days 0', 'days ' + '9' * 31, 'undo', 'at a 0', 'at zz 1', 'at a ' + '9' * 31] + QUESTIONS:
            self.assertTrue(ROW.fullmatch(row))
            console = Console()
            check_error(self, NoRow, console.say, row)
            self.assertEqual(console.say(OPEN), 'ok')
            self.assertNotEqual(outcome(console.say, row), NoRow)

    def test_a_text_that_is_not_one(self):
        texts = ['', ' ', ';', '- a;', ';- a', '- a;0 a', '- a;1 b', '- a;00 b', '-a', '0 a', '-  a', ' - a', '- a ',
                 '- A', '- a;0  b', '- a 0 b', '- a;;0 b', '- a,0 b', 'a', '- abcdefghi', 'open - a', '- a;0 b;3 c',
                 '- a\r', '- a;0 b;0 c;2 d;', ';'.join(['- a'] + ['0 b'] * 40)]
        for text in texts:
            with self.subTest(text):
                console = Console()
                check_error(self, NoText, console.say, 'open ' + text)
                check_error(self, NoRow, console.say, 'seating')
                console = opened()
                check_error(self, NoText, console.say, 'open ' + text)
                self.check_same(console)

    def test_the_numbers_at_the_limits(self):
        console = opened(star(4))
        self.assertEqual(console.say('days 1' + '0' * 30), 'ok')
        self.assertEqual(console.say('days 1'), 'ok')
        self.assertEqual(console.say('at a 0'), console.say('at a 12'))
        self.assertEqual(console.say('at a 1' + '0' * 30), str(desk_of(star(4), tuple(console.say('seating').split()),
                                                                       ORDER, 'a', MOST)))
        self.assertEqual(console.say('undo'), 'ok')
        self.assertEqual(console.say('undo'), 'ok')
        self.assertEqual(console.say('seating'), 'a b c d')
        for row in ('days 0', 'days 1' + '0' * 29 + '1', 'days ' + '9' * 31, 'at a 1' + '0' * 29 + '1',
                    'at a ' + '9' * 31):
            check_error(self, NoCalls, console.say, row)
        self.assertEqual(console.say('seating'), 'a b c d')

    def test_errors_of_valid_rows(self):
        rows = [('order a a', NoOrder), ('order e', NoOrder), ('order a b c d a', NoOrder), ('order abcdefgh', NoOrder),
                ('order a b c d e', NoOrder), ('order ' + ' '.join('abcdefghijklmnopqrstuvwxyz' * 3), NoOrder),
                ('call e', NoName), ('call zzzzzzzz', NoName), ('call open', NoName), ('call seating', NoName),
                ('days 0', NoCalls), ('at e 1', NoName), ('at e ' + '9' * 31, NoName), ('at a ' + '9' * 31, NoCalls)]
        for row, error in rows:
            with self.subTest(row):
                console = opened()
                check_error(self, error, console.say, row)
                self.check_same(console)
        console = Console()
        console.say(OPEN)
        for _ in range(2):
            check_error(self, Nothing, console.say, 'undo')
        self.assertEqual(console.say('seating'), 'a b c d')

    def test_names_like_the_words_of_rows(self):
        console = Console()
        self.assertEqual(console.say('open - open;0 call;0 undo'), 'ok')
        self.assertEqual(console.say('order undo call open'), 'ok')
        self.assertEqual(console.say('call call'), 'ok')
        self.assertEqual(console.say('seating'), 'call open undo')
        self.assertEqual(console.say('at undo 1'), '0')

    def test_names_that_are_no_words(self):
        console = opened()
        for name in BAD_NAMES:
            for row in ('call ' + name, 'at ' + name + ' 1', 'order a ' + name, 'order ' + name + ' a'):
                if ROW.fullmatch(row) is None:
                    check_error(self, NoRow, console.say, row)
        self.check_same(console)

    def test_rows_with_a_character_changed(self):
        chance = random.Random(23)
        printable = [chr(code) for code in range(32, 127) if chr(code) != '%'] + ['\n']
        rows = ['order a b c d', 'order', 'call b', 'days 12', 'undo', 'at c 305', 'days 1' + '0' * 30] + QUESTIONS
        for row in rows:
            for at in range(len(row) + 1):
                for character in chance.sample(printable, 9) + [' ', 'a', '0', '\n', row[at - 1]]:
                    self.check(row[:at] + character + row[at:])
                    self.check(row[:at] + character + row[at + 1:])
                self.check(row[:at] + row[at + 1:])

    def test_rows_with_a_word_changed(self):
        words = ['', 'a', 'e', '0', '1', '01', '9' * 31, '1' * 32, 'order', 'call', 'days', 'at', 'undo', 'seating',
                 'A', 'abcdefgh', 'abcdefghi', '-']
        rows = ['order a b c', 'order', 'call b', 'days 12', 'undo', 'at c 305'] + QUESTIONS
        for row in rows:
            parts = row.split(' ')
            for at in range(len(parts) + 1):
                for word in words + parts[at:at + 1]:
                    self.check(' '.join(parts[:at] + [word] + parts[at:]))
                    self.check(' '.join(parts[:at] + [word] + parts[at + 1:]))
                self.check(' '.join(parts[:at] + parts[at + 1:]))

    def test_open_rows_with_a_character_changed(self):
        chance = random.Random(24)
        for office, seating in ((OFFICE, START), (grown(12, 1), names_for(12))):
            row = opening(office, seating)
            for at in range(len('open '), len(row) + 1):
                for character in chance.sample('abcxyz0123456789-;: AZ.', 6):
                    for changed in (row[:at] + character + row[at:], row[:at] + character + row[at + 1:],
                                    row[:at] + row[at + 1:]):
                        text = changed[len('open '):].replace(';', '\n') + '\n'
                        self.check_open(changed, text)

    def check_open(self, row, text):
        found = re.fullmatch(rf'- {NAME}\n((0|[1-9][0-9]?) {NAME}\n)*', text)
        words = text.split()
        if found and len(set(words[1::2])) == len(words) // 2 and all(
                int(upper) <= index for index, upper in enumerate(words[2::2])):
            console = Console()
            self.assertEqual(console.say(row), 'ok')
            self.assertEqual(console.say('seating'), ' '.join(words[1::2]))
        else:
            check_error(self, NoText, Console().say, row)


if __name__ == '__main__':
    unittest.main()
