"""Tables: a number of dishes, and tasters, each with a ranking and a weight."""

from tasterow.errors import LastOne, NoDish, NoMenu, NoRanking, NoTaster, NoWeight, TooMany
from tasterow.limits import MAX_DISHES, MAX_TASTERS, MAX_WEIGHT
from tasterow.rankings import is_ranking
from tasterow.values import is_ascending, is_within


def is_weight(value):
    """Return whether value is a weight of a taster."""
    return is_within(value, 1, MAX_WEIGHT)


def is_taster(dishes, value):
    """Return whether value is a taster (ranking, weight) of that many dishes."""
    if not isinstance(value, tuple) or len(value) != 2:
        return False
    ranking, weight = value
    return is_ranking(dishes, ranking) and is_weight(weight)


def is_table(value):
    """Return whether value is a table."""
    if not isinstance(value, tuple) or len(value) != 2:
        return False
    dishes, tasters = value
    if not is_within(dishes, 1, MAX_DISHES):
        return False
    if not isinstance(tasters, tuple) or not 1 <= len(tasters) <= MAX_TASTERS:
        return False
    return all([is_taster(dishes, taster) for taster in tasters])


def rankings_of(table):
    """Return the tuple of the rankings of all tasters."""
    return tuple([ranking for ranking, weight in table[1]])


def total_weight(table):
    """Return the sum of the weights of all tasters."""
    return sum([weight for ranking, weight in table[1]])


def groups(table):
    """Return the tuple of all groups of tasters with equal rankings, by their first tasters."""
    members = {}
    for taster, ranking in enumerate(rankings_of(table)):
        members.setdefault(ranking, []).append(taster)
    # A dict keeps the order of its keys, which is that of the first tasters.
    return tuple([tuple(group) for group in members.values()])


def is_taster_number(table, value):
    """Return whether value is the number of a taster."""
    return is_within(value, 0, len(table[1]) - 1)


def is_dish_number(dishes, value):
    """Return whether value is the number of one of that many dishes."""
    return is_within(value, 0, dishes - 1)


def check_two_dishes(dishes, one, other):
    """Raise NoDish unless the two values are different dishes of that many."""
    if not is_dish_number(dishes, one):
        raise NoDish(one)
    if not is_dish_number(dishes, other) or one == other:
        raise NoDish(other)


def is_menu_of(dishes, value):
    """Return whether value is a menu of that many dishes."""
    return is_ascending(value, 0, dishes - 1) and len(value) > 0


def add_taster(table, ranking, weight):
    """Return the table with one more taster at the end."""
    dishes, tasters = table
    if not is_ranking(dishes, ranking):
        raise NoRanking(ranking)
    if not is_weight(weight):
        raise NoWeight(weight)
    if len(tasters) >= MAX_TASTERS:
        raise TooMany(MAX_TASTERS)
    return (dishes, tasters + ((ranking, weight),))


def remove_taster(table, taster):
    """Return the table without that taster."""
    dishes, tasters = table
    if not is_taster_number(table, taster):
        raise NoTaster(taster)
    if len(tasters) == 1:
        raise LastOne()
    return (dishes, tasters[:taster] + tasters[taster + 1:])


def remove_dish(table, dish):
    """Return the table without that dish, the greater dishes renumbered."""
    dishes = table[0]
    if not is_dish_number(dishes, dish):
        raise NoDish(dish)
    if dishes == 1:
        raise LastOne()
    return restrict(table, tuple([other for other in range(dishes) if other != dish]))


def restrict(table, menu):
    """Return the table with only the dishes of the menu, renumbered."""
    dishes, tasters = table
    if not is_menu_of(dishes, menu):
        raise NoMenu()
    return (len(menu), tuple([(restrict_ranking(ranking, menu), weight) for ranking, weight in tasters]))


def restrict_ranking(ranking, menu):
    """Return the ranking of only the dishes of the menu, renumbered."""
    return tuple([menu.index(dish) for dish in ranking if dish in menu])
