"""Questions about spans of a line, answered by the places where pairs change."""

from tasterow.errors import NoMenu, NoPlaces, NoRanking
from tasterow.limits import MAX_TASTERS, MAX_WEIGHT
from tasterow.lines import line_changes, line_ranking, line_segments
from tasterow.majorities import middle_rankings
from tasterow.menus import chosen_position, joined_blocks
from tasterow.rankings import agree, all_pairs, is_ranking, prefers
from tasterow.tables import check_two_dishes, is_menu_of
from tasterow.values import is_ascending


def weighted_rankings(line, low, high):
    """Return the list of all (ranking, number of tasters) along the span."""
    return [(ranking, last - first + 1) for first, last, ranking in line_segments(line, low, high)]


def line_support(line, low, high, one, other):
    """Return the number of tasters of the span who prefer dish one to dish other."""
    parts = weighted_rankings(line, low, high)
    check_two_dishes(len(line), one, other)
    return sum([many for ranking, many in parts if prefers(ranking, one, other)])


def line_medians(line, low, high):
    """Return the ascending tuple of the medians of the span."""
    return middle_rankings(weighted_rankings(line, low, high))


def line_choices(line, low, high, menu):
    """Return the tuple of all (dish, first, last): who of the span chooses each dish of the menu."""
    segments = line_segments(line, low, high)
    if not is_menu_of(len(line), menu):
        raise NoMenu()
    return joined_blocks([(ranking[chosen_position(ranking, menu)], first, last) for first, last, ranking in segments])


def line_cost(line, low, high, menu):
    """Return the sum of the positions of the chosen dishes over all tasters of the span."""
    parts = weighted_rankings(line, low, high)
    if not is_menu_of(len(line), menu):
        raise NoMenu()
    return sum([many * chosen_position(ranking, menu) for ranking, many in parts])


def range_by_changes(line, low, high, ranking):
    """Return (first, last) of the insert range if only the pairs that change in the span mattered."""
    start = line_ranking(line, low)
    changes = line_changes(line, low, high)
    # Who is still as at the start of the span sits before the change, the others behind it.
    before = [t for t, pair in changes if agree(start, ranking, pair)]
    behind = [t for t, pair in changes if not agree(start, ranking, pair)]
    return (max([low] + behind), min(before + [high + 1]))


def fits_only_at_ends(line, low, high, ranking):
    """Return whether the whole span agrees on some pair on which the ranking differs from it."""
    start = line_ranking(line, low)
    changed = [pair for t, pair in line_changes(line, low, high)]
    constant = [pair for pair in all_pairs(len(line)) if pair not in changed]
    return not all([agree(start, ranking, pair) for pair in constant])


def line_insert_ranges(line, low, high, ranking):
    """Return the ascending tuple of the maximal ranges (first, last) where the ranking can be inserted."""
    line_changes(line, low, high)
    if not is_ranking(len(line), ranking):
        raise NoRanking(ranking)
    first, last = range_by_changes(line, low, high, ranking)
    # The two ends of a single taster are one range.
    if low < high and fits_only_at_ends(line, low, high, ranking):
        return tuple([(end, end) for end in (low, high + 1) if first <= end <= last])
    return ((first, last),) if first <= last else ()


def line_table(line, places):
    """Return the table of the tasters at the given places, each with weight 1."""
    if not is_ascending(places, 0, MAX_WEIGHT) or not 1 <= len(places) <= MAX_TASTERS:
        raise NoPlaces()
    return (len(line), tuple([(line_ranking(line, t), 1) for t in places]))
