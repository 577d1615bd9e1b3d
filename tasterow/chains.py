"""Chains: shortest paths by swaps that contain the rankings of all tasters."""

from tasterow.obstructions import first_seating
from tasterow.rankings import is_ranking, reverse_ranking
from tasterow.swaps import is_shortest_path, swap_path
from tasterow.tables import rankings_of


def continued(path, ranking):
    """Return the path, continued by swap_path to that ranking."""
    return path + swap_path(path[-1], ranking)[1:]


def contains_all(table, path):
    """Return whether the path contains the rankings of all tasters."""
    return all([ranking in path for ranking in rankings_of(table)])


def row_of_rankings(table):
    """Return the list of the rankings of all tasters in the order of the first seating."""
    rankings = rankings_of(table)
    return [rankings[taster] for taster in first_seating(table)]


def chain(table):
    """Return the chain along the first seating."""
    row = row_of_rankings(table)
    path = (row[0],)
    for ranking in row:
        # A taster of the same group as the one before adds nothing.
        path = continued(path, ranking)
    return path


def is_chain(table, value):
    """Return whether value is a chain of the table."""
    row = row_of_rankings(table)
    if not is_shortest_path(row[0], row[-1], value) and not is_shortest_path(row[-1], row[0], value):
        return False
    return contains_all(table, value)


def full_chain(table):
    """Return the chain of the table, continued to the reverse of its first ranking."""
    path = chain(table)
    return continued(path, reverse_ranking(path[0]))


def is_full_chain(table, value):
    """Return whether value is a full chain of the table."""
    if not isinstance(value, tuple) or len(value) == 0 or not is_ranking(table[0], value[0]):
        return False
    return is_shortest_path(value[0], reverse_ranking(value[0]), value) and contains_all(table, value)
