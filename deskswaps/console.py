"""A console: rows of text that open a live office, change it and ask about it."""

from deskswaps.costs import final_cost
from deskswaps.cycles import cycle_length
from deskswaps.errors import NoRow
from deskswaps.far import desk_of
from deskswaps.kinds import is_name
from deskswaps.live import LiveOffice
from deskswaps.settling import groups_of, settling_day
from deskswaps.texts import read_office

OPENING = "open "
DONE = "ok"
DIGITS = "0123456789"
MOST_DIGITS = 31

# The kinds of the words that follow the first one. After "order" there are any number of names.
KINDS = {
    "call": ("name",),
    "days": ("number",),
    "undo": (),
    "seating": (),
    "settle": (),
    "cycle": (),
    "cost": (),
    "groups": (),
    "at": ("name", "number"),
}


def is_numeral(word):
    """Tell whether the word is a number of at most 31 digits without leading zeros."""
    # isdigit() would also take digits beyond 0 to 9.
    if not 1 <= len(word) <= MOST_DIGITS or not all([letter in DIGITS for letter in word]):
        return False
    return word == "0" or word[0] != "0"


def is_of_kind(word, kind):
    """Tell whether the word is of one of the kinds of words."""
    if kind == "name":
        return is_name(word)
    return is_numeral(word)


def is_row(first, rest):
    """Tell whether the first word and the list of the other words make a row for a live office."""
    if first == "order":
        return all([is_name(word) for word in rest])
    if first not in KINDS:
        return False
    kinds = KINDS[first]
    return len(rest) == len(kinds) and all([is_of_kind(word, kind) for word, kind in zip(rest, kinds)])


def give_order(live, *names):
    live.reorder(names)
    return DONE


def call_person(live, name):
    live.call(name)
    return DONE


def run_days(live, days):
    live.days(int(days))
    return DONE


def take_back(live):
    live.undo()
    return DONE


def tell_seating(live):
    return " ".join(live.seating())


def tell_settling(live):
    return str(settling_day(live.office(), live.seating(), live.order()))


def tell_cycle(live):
    return str(cycle_length(live.office(), live.seating(), live.order()))


def tell_cost(live):
    return str(final_cost(live.office(), live.seating(), live.order()))


def tell_group(center, lower):
    desks = ",".join([str(desk) for desk in lower])
    return f"{center}:{desks}"


def tell_groups(live):
    found = groups_of(live.office(), live.seating(), live.order())
    return ";".join([tell_group(center, lower) for center, lower, _ in found])


def tell_desk(live, name, calls):
    return str(desk_of(live.office(), live.seating(), live.order(), name, int(calls)))


ACTIONS = {
    "order": give_order,
    "call": call_person,
    "days": run_days,
    "undo": take_back,
    "seating": tell_seating,
    "settle": tell_settling,
    "cycle": tell_cycle,
    "cost": tell_cost,
    "groups": tell_groups,
    "at": tell_desk,
}


class Console:
    """Holds a live office, at first none."""

    def __init__(self):
        self._live = None

    def say(self, row):
        """Execute a row and return its answer."""
        if not isinstance(row, str) or "\n" in row:
            raise NoRow("this is not a row")
        if row.startswith(OPENING):
            text = row[len(OPENING):].replace(";", "\n")
            office, seating = read_office(text + "\n")
            self._live = LiveOffice(office, seating)
            return DONE
        first, *rest = row.split(" ")
        if not is_row(first, rest):
            raise NoRow("this is not a row")
        if self._live is None:
            raise NoRow("there is no live office yet")
        action = ACTIONS[first]
        return action(self._live, *rest)
