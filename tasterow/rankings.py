"""Rankings: tuples that list the dishes 0 to n - 1, the best one first."""

from tasterow.errors import NoIndex
from tasterow.limits import MAX_DISHES
from tasterow.values import ascending_tuples, is_order, is_within


def is_ranking(dishes, value):
    """Return whether value is a ranking of that many dishes."""
    return 1 <= dishes <= MAX_DISHES and is_order(dishes, value)


def reverse_ranking(ranking):
    """Return the ranking in reverse."""
    return ranking[::-1]


def count_rankings(dishes):
    """Return the number of rankings of that many dishes."""
    number = 1
    for factor in range(2, dishes + 1):
        number *= factor
    return number


def ranking_index(ranking):
    """Return the number of smaller rankings of the same length."""
    index = 0
    for at, dish in enumerate(ranking):
        later = ranking[at:]
        smaller = [other for other in later if other < dish]
        # The dishes from here on can be ordered in len(later) times as many
        # ways as those behind this one, so each step is one mixed-base digit.
        index = index * len(later) + len(smaller)
    return index


def ranking_at(dishes, index):
    """Return the ranking of that many dishes with the given index."""
    size = count_rankings(dishes)
    if not is_within(index, 0, size - 1):
        raise NoIndex(index)
    left = list(range(dishes))
    ranking = []
    rest = index
    while left:
        # The rankings that remain fall into equal runs by their next dish.
        size //= len(left)
        ranking.append(left.pop(rest // size))
        rest %= size
    return tuple(ranking)


def all_pairs(dishes):
    """Return the ascending list of all pairs of that many dishes."""
    return ascending_tuples(dishes, 2)


def prefers(ranking, one, other):
    """Return whether the ranking prefers dish one to dish other."""
    return ranking.index(one) < ranking.index(other)


def agree(one, other, pair):
    """Return whether two rankings prefer the same dish of the pair."""
    low, high = pair
    return prefers(one, low, high) == prefers(other, low, high)


def differences(one, other):
    """Return the ascending tuple of all pairs on which two rankings differ."""
    return tuple([pair for pair in all_pairs(len(one)) if not agree(one, other, pair)])


def distance(one, other):
    """Return the number of pairs on which two rankings differ."""
    return len(differences(one, other))


def is_between(one, other, third):
    """Return whether third agrees with both others wherever these agree."""
    shared = [pair for pair in all_pairs(len(one)) if agree(one, other, pair)]
    return all([agree(one, third, pair) for pair in shared])
