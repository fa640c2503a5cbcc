"""Points 3 and 13, and section 16: the text of an office and a seating."""

import random
import re
import unittest

from deskswaps.calls import is_seating
from deskswaps.errors import NoOffice, NoSeating, NoText
from deskswaps.offices import is_office
from deskswaps.texts import read_office, show_office
from tests.support import (BAD_OFFICES, BAD_SEATINGS, OFFICE, START, EqualToAll, NotShown, chain, check_each_error,
                           check_error, check_errors, check_unchanged, names_for, odd_values, offices_with, star)

TEXT = '- a\n0 b\n0 c\n2 d\n'
PRINTABLE = [chr(code) for code in range(32, 127) if chr(code) != '%'] + ['\n']


def long_names(many):
    """Different names of eight letters."""
    return tuple('aaaaaa' + chr(97 + index // 26) + chr(97 + index % 26) for index in range(many))


def samples():
    """Offices of one to forty desks, with a seating of each."""
    for many in range(1, 41):
        for index, office in enumerate(offices_with(many)):
            yield office, long_names(many) if index == 0 else names_for(many, index)


def text_of(office, seating):
    lines = [f'- {seating[0]}'] + [f'{upper:d} {name}' for upper, name in zip(office, seating[1:])]
    return '\n'.join(lines) + '\n'


def expected(text):
    """What a text describes, by the pattern of its lines, or None."""
    if re.fullmatch(r'- [a-z]{1,8}\n((0|[1-9][0-9]?) [a-z]{1,8}\n)*', text) is None:
        return None
    words = text.split()
    office, seating = tuple(map(int, words[2::2])), tuple(words[1::2])
    if len(seating) > 40 or len(set(seating)) < len(seating) or any(up > at for at, up in enumerate(office)):
        return None
    return office, seating


class TextsTest(unittest.TestCase):

    def check(self, text):
        """Check the answer for any string."""
        value = expected(text)
        if value is None:
            check_error(self, NoText, read_office, text)
            return
        found = read_office(text)
        self.assertEqual((type(found), found), (tuple, value))
        self.assertEqual([type(part) for part in found], [tuple, tuple])
        self.assertIs(is_seating(*found), True)
        self.assertEqual(show_office(*found), text)

    def test_examples(self):
        self.assertEqual(show_office((0, 0), ('a', 'b', 'cd')), '- a\n0 b\n0 cd\n')
        check_error(self, NoText, read_office, '- a\n00 b\n')

    def test_there_and_back(self):
        for office, seating in samples():
            text = show_office(office, seating)
            self.assertIs(type(text), str)
            self.assertEqual(text, text_of(office, seating))
            found = read_office(text)
            self.assertEqual((type(found), found), (tuple, (office, seating)))
            self.assertEqual([type(part) for part in found], [tuple, tuple])
            self.assertIs(is_office(found[0]), True)

    def test_one_desk(self):
        self.assertEqual(show_office((), ('abcdefgh',)), '- abcdefgh\n')
        self.assertEqual(read_office('- abcdefgh\n'), ((), ('abcdefgh',)))

    def test_forty_and_forty_one_desks(self):
        text = text_of(star(40), names_for(40))
        self.assertEqual(read_office(text), (star(40), names_for(40)))
        check_error(self, NoText, read_office, text + '0 zzzzzzzz\n')
        check_error(self, NoText, read_office, text_of(chain(41), names_for(41)))
        check_error(self, NoText, read_office, text_of((0,) * 400, long_names(401)))

    def test_texts_that_describe_nothing(self):
        for text in ['', '\n', ' ', '-', '- ', '- a', 'a\n', '-a\n', '0 a\n', '- a\n\n', '\n- a\n', '-  a\n', ' - a\n',
                     '- a \n', '- a\n- b\n', '- a\n1 b\n', '- a\n-1 b\n', '- a\n+0 b\n', '- a\n0  b\n', '- a\n 0 b\n',
                     '- a\n0 b', '- a\n0 b\n0', '- a\n0 b\n0 \n', '- a\n0 a\n', '- a\n0 B\n', '- a\n0 b c\n',
                     '- abcdefghi\n', '- a\r\n', '- a\n0 b\r\n', '- a\n0\tb\n', '- a\n\uff10 b\n', '- a\n\u0660 b\n',
                     '- a\n0_0 b\n', '- a\n0x0 b\n', '- a\n0.0 b\n', '- \xe4\n', '- a\x0b0 b\n', '- a\x0c', '-\xa0a\n',
                     '- a\n0 b\n01 c\n', '- a\n0 b\n00 c\n', '- a\n0 b\n2 c\n', '- a;0 b', '- a\n00000 b\n',
                     '- a\n' + '0' * 4000 + ' b\n', '- a\n' + '9' * 4900 + ' b\n', '\u2014 a\n', '- a\u2028']:
            with self.subTest(text):
                self.assertIs(expected(text), None)
                check_error(self, NoText, read_office, text)

    def test_every_character_at_every_place(self):
        for character in PRINTABLE:
            for at in range(len(TEXT) + 1):
                self.check(TEXT[:at] + character + TEXT[at:])
                self.check(TEXT[:at] + character + TEXT[at + 1:])
        for at in range(len(TEXT)):
            self.check(TEXT[:at] + TEXT[at + 1:])

    def test_one_to_three_characters_changed(self):
        chance = random.Random(17)
        readable = 0
        for office, seating in list(samples()) + [(OFFICE, START)] * 40:
            text = show_office(office, seating)
            for _ in range(12):
                changed = list(text)
                for _ in range(chance.randint(1, 3)):
                    at = chance.randrange(len(changed)) if changed else 0
                    more = [chance.choice(PRINTABLE + list('0123456789abc \n') * 6)]
                    changed[at:at + chance.randint(0, 1)] = more if chance.random() < 0.6 else []
                self.check(''.join(changed))
                readable += expected(''.join(changed)) is not None
        self.assertGreater(readable, 100)

    def test_a_line_or_a_word_changed(self):
        chance = random.Random(18)
        for office, seating in samples():
            lines = show_office(office, seating).splitlines(keepends=True)
            words = re.split('([ \n])', ''.join(lines))
            for parts in (lines, words):
                for _ in range(3):
                    one, other = chance.randrange(len(parts)), chance.randrange(len(parts))
                    rest = parts[:one] + parts[one + 1:]
                    self.check(''.join(rest))
                    self.check(''.join(parts[:other] + [parts[one]] + parts[other:]))
                    self.check(''.join(rest[:other] + [parts[one]] + rest[other:]))
                    self.check(''.join(parts[:one] + [parts[other]] + parts[one + 1:]))
                    self.check(''.join(parts[:one] + [chance.choice(['0', '1', '39', 'a', '-', '0 b\n', ' '])]
                                       + parts[one + 1:]))

    def test_values_of_other_kinds(self):
        values = odd_values() + [0, 10 ** 36, TEXT.encode(), [TEXT], (TEXT,), {TEXT: TEXT}, {TEXT}, (OFFICE, START),
                                 TEXT.split('\n'), list(TEXT), EqualToAll(), NotShown()]
        for value in values:
            check_error(self, NoText, read_office, value)

    def test_errors_of_show_office(self):
        check_each_error(self, show_office, (OFFICE, BAD_OFFICES + odd_values(), NoOffice),
                         (START, BAD_SEATINGS + odd_values(), NoSeating))
        check_errors(self, show_office, (OFFICE, BAD_OFFICES, NoOffice), (START, BAD_SEATINGS, NoSeating))

    def test_arguments_are_not_changed(self):
        for office in (OFFICE, [0, 0, 2]):
            for seating in (START, list(START)):
                check_unchanged(self, show_office, office, seating)
        for value in (TEXT, '', [TEXT], {TEXT: [TEXT]}):
            check_unchanged(self, read_office, value)


if __name__ == '__main__':
    unittest.main()
