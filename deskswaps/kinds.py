"""The plain kinds of values that the other modules ask for.

Each function takes any value, so it settles what kind a value is before it
compares it or looks inside.
"""

LETTERS = "abcdefghijklmnopqrstuvwxyz"
LONGEST_NAME = 8


def is_whole(value):
    """Tell whether the value is an integer."""
    # True and False would pass as 1 and 0.
    return isinstance(value, int) and not isinstance(value, bool)


def is_number(value, low, high):
    """Tell whether the value is an integer from low to high."""
    return is_whole(value) and low <= value <= high


def is_name(value):
    """Tell whether the value is a name."""
    if not isinstance(value, str) or not 1 <= len(value) <= LONGEST_NAME:
        return False
    # islower() would also take letters beyond a to z.
    return all([letter in LETTERS for letter in value])


def are_different_names(value):
    """Tell whether the value is a tuple of different names."""
    if not isinstance(value, tuple) or not all([is_name(item) for item in value]):
        return False
    return len(set(value)) == len(value)
