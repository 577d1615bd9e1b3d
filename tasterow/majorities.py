"""Majorities: what more than half of the total weight prefers, and the medians."""

from tasterow.counting import group_order
from tasterow.rankings import all_pairs, prefers
from tasterow.tables import check_two_dishes, total_weight


def support(table, one, other):
    """Return the total weight of the tasters who prefer dish one to dish other."""
    check_two_dishes(table[0], one, other)
    return sum([weight for ranking, weight in table[1] if prefers(ranking, one, other)])


def lead(table, one, other):
    """Return by how much the weight for dish one exceeds that for dish other."""
    return 2 * support(table, one, other) - total_weight(table)


def majority(table):
    """Return the ascending tuple of all (one, other) such that more than half prefer one to other."""
    pairs = all_pairs(table[0])
    both = sorted(pairs + [(high, low) for low, high in pairs])
    return tuple([(one, other) for one, other in both if lead(table, one, other) > 0])


def ties(table):
    """Return the ascending tuple of all pairs with half of the total weight on each side."""
    return tuple([(low, high) for low, high in all_pairs(table[0]) if lead(table, low, high) == 0])


def middle_rankings(parts):
    """Return the ascending tuple of the medians of a list of (ranking, weight) in the order of a seating."""
    total = sum([weight for ranking, weight in parts])
    found = []
    passed = 0
    for ranking, weight in parts:
        # Half of the weight is reached within this part, or just at one of its ends.
        if 2 * passed <= total <= 2 * (passed + weight):
            found.append(ranking)
        passed += weight
    return tuple(sorted(found))


def group_part(table, group):
    """Return the ranking and the weight of a group."""
    tasters = table[1]
    return (tasters[group[0]][0], sum([tasters[taster][1] for taster in group]))


def medians(table):
    """Return the ascending tuple of the medians."""
    return middle_rankings([group_part(table, group) for group in group_order(table)])
