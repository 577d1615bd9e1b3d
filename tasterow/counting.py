"""The number of seatings of a table, and their numbering in tuple order."""

from tasterow.errors import NoIndex, NoSeating
from tasterow.obstructions import first_seating
from tasterow.rankings import count_rankings, ranking_at, ranking_index
from tasterow.seatings import find_seating, is_seating
from tasterow.tables import groups
from tasterow.values import is_within


def group_order(table):
    """Return the tuple of all groups in the order of the first seating."""
    seating = first_seating(table)
    return tuple(sorted(groups(table), key=lambda group: seating.index(group[0])))


def count_rows(order):
    """Return the number of seatings with the groups in that order."""
    number = 1
    for group in order:
        number *= count_rankings(len(group))
    return number


def directions(order):
    """Return the orders in which the groups can sit: that one, and its reverse unless it is the same."""
    return [order] if len(order) == 1 else [order, order[::-1]]


def count_directed(order):
    """Return the number of seatings with the groups in that order or its reverse."""
    return count_rows(order) * len(directions(order))


def count_seatings(table):
    """Return the number of seatings."""
    return 0 if find_seating(table) is None else count_directed(group_order(table))


def row_at(order, index):
    """Return the seating with that index among those with the groups in that order."""
    row = ()
    rest = index
    for group in reversed(order):
        rest, part = divmod(rest, count_rankings(len(group)))
        row = tuple([group[at] for at in ranking_at(len(group), part)]) + row
    return row


def row_index(order, row):
    """Return the index of a seating among those with the groups in that order."""
    index = 0
    start = 0
    for group in order:
        part = row[start:start + len(group)]
        # The numbering compares dishes only, so it numbers tasters as well.
        index = index * count_rankings(len(group)) + ranking_index(part)
        start += len(group)
    return index


def starts(order):
    """Return the ascending list of all (first taster, order of the groups from there on)."""
    return sorted([(first, way) for way in directions(order) for first in way[0]])


def count_behind(order):
    """Return the number of seatings with the groups in that order and one given first taster."""
    return count_rows(order) // len(order[0])


def seating_at(table, index):
    """Return the seating with that index in tuple order."""
    order = group_order(table)
    if not is_within(index, 0, count_directed(order) - 1):
        raise NoIndex(index)
    rest = index
    # The two directions may alternate: their seatings are ordered by the first taster.
    for first, way in starts(order):
        if rest < count_behind(way):
            break
        rest -= count_behind(way)
    return row_at(way, way[0].index(first) * count_behind(way) + rest)


def seating_index(table, value):
    """Return the index of a seating in tuple order."""
    order = group_order(table)
    if not is_seating(table, value):
        raise NoSeating()
    smaller = [count_behind(way) for first, way in starts(order) if first < value[0]]
    own = order if value[0] in order[0] else order[::-1]
    return sum(smaller) + row_index(own, value) % count_behind(own)
