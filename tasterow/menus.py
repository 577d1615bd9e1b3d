"""Menus: what tasters choose, what that costs, and the best menu of a size."""

from tasterow.errors import NoCuts, NoMenu, NoSeating, NoSize
from tasterow.obstructions import first_seating
from tasterow.seatings import is_seating
from tasterow.tables import is_menu_of
from tasterow.values import ascending_tuples, is_ascending, is_within


def is_menu(table, value):
    """Return whether value is a menu of dishes of the table."""
    return is_menu_of(table[0], value)


def chosen_position(ranking, menu):
    """Return the position of the dish of the menu that the ranking prefers to the others."""
    return min([ranking.index(dish) for dish in menu])


def choices(table, menu):
    """Return the tuple of the dishes that the tasters choose."""
    if not is_menu(table, menu):
        raise NoMenu()
    return tuple([ranking[chosen_position(ranking, menu)] for ranking, weight in table[1]])


def joined_blocks(parts):
    """Return the tuple of the blocks (dish, first, last) that consist of such parts of a row."""
    found = []
    for dish, first, last in parts:
        # All who choose a dish sit together, so it can only continue the last block.
        if found and found[-1][0] == dish:
            found[-1] = (dish, found[-1][1], last)
        else:
            found.append((dish, first, last))
    return tuple(found)


def blocks(table, menu):
    """Return the tuple of all (dish, first, last) along the first seating."""
    seating = first_seating(table)
    chosen = choices(table, menu)
    return joined_blocks([(chosen[taster], at, at) for at, taster in enumerate(seating)])


def cost(table, menu):
    """Return the sum of the weights times the positions of the chosen dishes."""
    if not is_menu(table, menu):
        raise NoMenu()
    return sum([weight * chosen_position(ranking, menu) for ranking, weight in table[1]])


def best_menu(table, size):
    """Return the menu of that size with the lowest cost, the smallest one of several."""
    dishes = table[0]
    if not is_within(size, 1, dishes):
        raise NoSize(size)
    return min([(cost(table, menu), menu) for menu in ascending_tuples(dishes, size)])[1]


def dish_cost(tasters, dish):
    """Return the sum of the weights times the positions if all these tasters get that dish."""
    return sum([weight * ranking.index(dish) for ranking, weight in tasters])


def block_cost(table, seating, cuts):
    """Return the lowest sum if each block of the seating between the cuts gets one dish."""
    # This raises NotSeatable, which comes before what the seating itself may be.
    first_seating(table)
    if not is_seating(table, seating):
        raise NoSeating()
    if not is_ascending(cuts, 1, len(seating) - 1):
        raise NoCuts()
    dishes, tasters = table
    along = [tasters[taster] for taster in seating]
    ends = [0, *cuts, len(along)]
    parts = [along[ends[at]:ends[at + 1]] for at in range(len(ends) - 1)]
    return sum([min([dish_cost(part, dish) for dish in range(dishes)]) for part in parts])
