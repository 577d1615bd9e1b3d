"""Checks of values that may be anything, and the ascending tuples of integers."""

LETTERS = "abcdefghijklmnopqrstuvwxyz"
MAX_NAME = 8


def is_whole(value):
    """Return whether value is an integer; truth values are none."""
    # Python counts True and False as int, the document does not.
    return isinstance(value, int) and not isinstance(value, bool)


def is_within(value, low, high):
    """Return whether value is an integer from low to high."""
    return is_whole(value) and low <= value <= high


def is_order(size, value):
    """Return whether value is a tuple with each of the integers 0 to size - 1 once."""
    # Only integers can be sorted safely, and True would pass for 1.
    if not isinstance(value, tuple) or not all([is_whole(part) for part in value]):
        return False
    return sorted(value) == list(range(size))


def is_ascending(value, low, high):
    """Return whether value is an ascending tuple of integers from low to high."""
    if not isinstance(value, tuple) or not all([is_within(part, low, high) for part in value]):
        return False
    return all([value[at - 1] < value[at] for at in range(1, len(value))])


def is_name(value):
    """Return whether value is a name of a taster: 1 to 8 lowercase letters."""
    if not isinstance(value, str) or not 1 <= len(value) <= MAX_NAME:
        return False
    return all([letter in LETTERS for letter in value])


def ascending_tuples(size, length):
    """Return the ascending list of all ascending tuples of that length with integers below size."""
    rows = [()]
    for step in range(length):
        rows = [row + (more,) for row in rows for more in range(row[-1] + 1 if row else 0, size)]
    return rows
