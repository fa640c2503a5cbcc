"""The text of an office and a seating: a line for each desk, with its superior and its name."""

from deskswaps.calls import is_seating, need_seating
from deskswaps.errors import NoText
from deskswaps.offices import MOST_DESKS

NO_SUPERIOR = "-"


def show_office(office, seating):
    """Return the text of an office and a seating."""
    need_seating(office, seating)
    words = [NO_SUPERIOR, *[str(upper) for upper in office]]
    return "".join([f"{word} {name}\n" for word, name in zip(words, seating)])


def superior_words(desk):
    """Return the words that may stand for the superior of a desk, the one for the desk k at index k."""
    if desk == 0:
        return [NO_SUPERIOR]
    return [str(upper) for upper in range(desk)]


def lines_of(text):
    """Return the lines of a text, at most one for each desk that an office may have, or raise NoText."""
    if not isinstance(text, str):
        raise NoText("this is not a string")
    *lines, rest = text.split("\n")
    if rest != "" or len(lines) > MOST_DESKS:
        raise NoText("this is not one line for each desk")
    return lines


def read_office(text):
    """Return the tuple (office, seating) that a text describes; any value may be asked."""
    uppers = []
    names = []
    for desk, line in enumerate(lines_of(text)):
        word, _, name = line.partition(" ")
        words = superior_words(desk)
        if word not in words:
            raise NoText("a line does not begin with a superior")
        uppers.append(words.index(word))
        names.append(name)
    office = tuple(uppers[1:])
    seating = tuple(names)
    if not is_seating(office, seating):
        raise NoText("the lines do not end with different names")
    return (office, seating)
