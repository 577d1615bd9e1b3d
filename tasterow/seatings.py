"""Seatings: rows of all tasters along which each pair changes at most once."""

from tasterow.errors import NoTaster
from tasterow.rankings import all_pairs, distance, prefers
from tasterow.tables import is_taster_number, rankings_of
from tasterow.values import is_order


def sides(table, pair):
    """Return for each taster whether it prefers the lower dish of the pair."""
    low, high = pair
    return [prefers(ranking, low, high) for ranking in rankings_of(table)]


def changes_once(table, row, pair):
    """Return whether the pair changes at most once along the row."""
    marks = sides(table, pair)
    along = [marks[taster] for taster in row]
    return len([at for at in range(1, len(along)) if along[at - 1] != along[at]]) <= 1


def is_seating(table, value):
    """Return whether value is a seating of the table."""
    dishes, tasters = table
    if not is_order(len(tasters), value):
        return False
    return all([changes_once(table, value, pair) for pair in all_pairs(dishes)])


def split_by(table, taster, pair):
    """Return the ascending tuple of all tasters that differ from that taster on the pair."""
    marks = sides(table, pair)
    return tuple([other for other, mark in enumerate(marks) if mark != marks[taster]])


def splits(table, taster):
    """Return the ascending tuple of all non-empty splits by that taster."""
    if not is_taster_number(table, taster):
        raise NoTaster(taster)
    found = [split_by(table, taster, pair) for pair in all_pairs(table[0])]
    return tuple(sorted({split for split in found if split}))


def row_from(table, start):
    """Return all tasters by their distances from one of them, and then by their numbers."""
    rankings = rankings_of(table)
    far = [(distance(rankings[start], ranking), taster) for taster, ranking in enumerate(rankings)]
    return tuple([taster for steps, taster in sorted(far)])


def find_seating(table):
    """Return the smallest seating in tuple order, or None if there is none."""
    # Along a seating distances add up. So the taster that is farthest from any
    # given one is at an end, and the distances from an end give the order.
    row = row_from(table, row_from(table, 0)[-1])
    seating = min(row, row_from(table, row[-1]))
    return seating if is_seating(table, seating) else None
