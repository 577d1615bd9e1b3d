"""Checks of values that may be anything."""


def is_whole(value):
    """Return whether value is an integer; truth values are none."""
    # Python counts True and False as int, the document does not.
    return isinstance(value, int) and not isinstance(value, bool)


def is_within(value, low, high):
    """Return whether value is an integer from low to high."""
    return is_whole(value) and low <= value <= high
