"""Lines: up to MAX_WEIGHT + 1 tasters, for whom the worth of each dish grows evenly."""

from tasterow.errors import NoSpan, NoTaster
from tasterow.limits import MAX_DISHES, MAX_WEIGHT
from tasterow.rankings import all_pairs
from tasterow.values import is_within


def is_line_dish(value):
    """Return whether value is (height, slope) of a dish of a line."""
    if not isinstance(value, tuple) or len(value) != 2:
        return False
    return all([is_within(part, -MAX_WEIGHT, MAX_WEIGHT) for part in value])


def is_line(value):
    """Return whether value is a line."""
    if not isinstance(value, tuple) or not 1 <= len(value) <= MAX_DISHES:
        return False
    return all([is_line_dish(dish) for dish in value])


def is_place(value):
    """Return whether value is the number of a taster of a line."""
    return is_within(value, 0, MAX_WEIGHT)


def check_span(low, high):
    """Raise NoSpan unless the two values are the ends of a span."""
    if not is_place(low) or not is_place(high) or low > high:
        raise NoSpan()


def line_ranking(line, t):
    """Return the ranking of taster t."""
    if not is_place(t):
        raise NoTaster(t)
    # The dish number stands behind the worth, so that ties go to the lower one.
    order = sorted([(-height - slope * t, dish) for dish, (height, slope) in enumerate(line)])
    return tuple([dish for worth, dish in order])


def change_of(line, pair):
    """Return the one integer t such that t - 1 and t differ on the pair, or None."""
    low, high = pair
    height = line[low][0] - line[high][0]
    slope = line[low][1] - line[high][1]
    # The lower dish is preferred wherever height + slope * t is at least 0.
    if slope > 0:
        return -(height // slope)
    if slope < 0:
        return height // -slope + 1
    return None


def line_changes(line, low, high):
    """Return the ascending tuple of all (t, pair) such that t - 1 and t of the span differ on the pair."""
    check_span(low, high)
    changes = [(change_of(line, pair), pair) for pair in all_pairs(len(line))]
    return tuple(sorted([(t, pair) for t, pair in changes if t is not None and low < t <= high]))


def line_segments(line, low, high):
    """Return the tuple of all (first, last, ranking) of the span, in ascending order."""
    starts = sorted(set([low] + [t for t, pair in line_changes(line, low, high)]))
    ends = [start - 1 for start in starts[1:]] + [high]
    return tuple([(first, last, line_ranking(line, first)) for first, last in zip(starts, ends)])


def line_distance(line, low, high):
    """Return the number of pairs on which the rankings of low and high differ."""
    # Each pair changes at most once, so none changes back.
    return len(line_changes(line, low, high))
