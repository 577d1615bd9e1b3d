"""Swaps: shortest ways from one ranking to another one by exchanging neighbours."""

from tasterow.errors import TooMany
from tasterow.rankings import distance, is_ranking, prefers

MAX_COUNTED = 6


def swap(ranking, at):
    """Return the ranking with its entries at that index and the next one exchanged."""
    return ranking[:at] + (ranking[at + 1], ranking[at]) + ranking[at + 2:]


def wrong_places(ranking, other):
    """Return the list of all indexes at which a swap brings the ranking closer to the other one."""
    return [at for at in range(len(ranking) - 1) if prefers(other, ranking[at + 1], ranking[at])]


def swap_path(one, other):
    """Return the shortest path from one to other that always swaps at the lowest index."""
    path = [one]
    places = wrong_places(one, other)
    while places:
        path.append(swap(path[-1], places[0]))
        places = wrong_places(path[-1], other)
    return tuple(path)


def is_shortest_path(one, other, value):
    """Return whether value is a shortest path from one to other."""
    if not isinstance(value, tuple) or len(value) != distance(one, other) + 1:
        return False
    if not all([is_ranking(len(one), ranking) for ranking in value]):
        return False
    if value[0] != one or value[-1] != other:
        return False
    # Two rankings that differ on one pair only have it side by side.
    return all([distance(value[at - 1], value[at]) == 1 for at in range(1, len(value))])


def count_shortest_paths(one, other):
    """Return the number of shortest paths from one to other."""
    if len(one) > MAX_COUNTED:
        raise TooMany(MAX_COUNTED)
    paths = {one: 1}
    for step in range(distance(one, other)):
        longer = {}
        for ranking, number in paths.items():
            for at in wrong_places(ranking, other):
                closer = swap(ranking, at)
                longer[closer] = longer.get(closer, 0) + number
        paths = longer
    return paths[other]
