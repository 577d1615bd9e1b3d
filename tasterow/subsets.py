"""Subsets: the heaviest tasters that are seatable by themselves, and levels that show it."""

from tasterow.majorities import group_part
from tasterow.rankings import distance
from tasterow.seatings import find_seating
from tasterow.tables import groups, total_weight
from tasterow.values import is_ascending, is_whole, is_within


def group_weights(table):
    """Return the list of the weights of all groups."""
    return [group_part(table, group)[1] for group in groups(table)]


def group_gaps(table):
    """Return for each group the list of its distances from all groups."""
    rankings = [group_part(table, group)[0] for group in groups(table)]
    return [[distance(one, other) for other in rankings] for one in rankings]


def is_step(gaps, end, near, far):
    """Return whether near is another group than far and between the groups end and far."""
    # A ranking is between two others if and only if its distances from them add up.
    return near != far and gaps[end][near] + gaps[near][far] == gaps[end][far]


def heaviest_rows(gaps, weights, end):
    """Return for each group (weight, row) of the heaviest row of groups from that end to it."""
    rows = {}
    # The groups between the end and another group are closer to the end.
    for far in sorted(range(len(weights)), key=lambda group: gaps[end][group]):
        before = [rows[near] for near in rows if is_step(gaps, end, near, far)]
        weight, row = max(before, default=(0, ()))
        rows[far] = (weight + weights[far], row + (far,))
    return [rows[group] for group in range(len(weights))]


def level_certificate(table):
    """Return a level certificate with every level as low as possible."""
    gaps, weights = group_gaps(table), group_weights(table)
    ways = [heaviest_rows(gaps, weights, end) for end in range(len(weights))]
    heaviest = max([best for rows in ways for best in rows])
    members = groups(table)
    tasters = tuple(sorted([taster for group in heaviest[1] for taster in members[group]]))
    levels = tuple([tuple([weight for weight, row in rows]) for rows in ways])
    return (heaviest[0], tasters, levels)


def heaviest_subset(table):
    """Return (weight, tasters) of a heaviest set of tasters that is seatable by itself."""
    weight, tasters, levels = level_certificate(table)
    return (weight, tasters)


def is_kept(table, weight, value):
    """Return whether value is a tuple of tasters of that weight that are seatable by themselves."""
    dishes, tasters = table
    if not is_ascending(value, 0, len(tasters) - 1) or len(value) == 0:
        return False
    kept = (dishes, tuple([tasters[taster] for taster in value]))
    return is_whole(weight) and total_weight(kept) == weight and find_seating(kept) is not None


def are_levels_of_one(weights, weight, value):
    """Return whether value has one integer for each group, from its weight to that of the tasters."""
    if not isinstance(value, tuple) or len(value) != len(weights):
        return False
    return all([is_within(level, low, weight) for level, low in zip(value, weights)])


def rises(gaps, weights, end, levels):
    """Return whether the levels for that end rise from each group to those behind it."""
    size = len(weights)
    steps = [(near, far) for far in range(size) for near in range(size) if is_step(gaps, end, near, far)]
    return all([levels[far] >= levels[near] + weights[far] for near, far in steps])


def is_level_certificate(table, value):
    """Return whether value is a level certificate of the table."""
    if not isinstance(value, tuple) or len(value) != 3:
        return False
    weight, tasters, levels = value
    if not is_kept(table, weight, tasters):
        return False
    gaps, weights = group_gaps(table), group_weights(table)
    if not isinstance(levels, tuple) or len(levels) != len(weights):
        return False
    if not all([are_levels_of_one(weights, weight, row) for row in levels]):
        return False
    return all([rises(gaps, weights, end, row) for end, row in enumerate(levels)])
