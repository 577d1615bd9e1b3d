"""States of a board: (names, table), the ascending names of the tasters and their table.

The table of a state has the tasters in the order of their names. It may also have none.
"""

from tasterow.errors import NameTaken, NoName, NoRanking, NoWeight, UnknownName
from tasterow.limits import MAX_BATCH
from tasterow.rankings import is_ranking
from tasterow.seatings import find_seating
from tasterow.tables import add_taster, is_weight, remove_dish
from tasterow.values import is_name


def taster_named(state, name):
    """Return the number of the taster with that name."""
    names = state[0]
    if name not in names:
        raise UnknownName(name)
    return names.index(name)


def replaced(state, taster, ranking, weight):
    """Return the state in which that taster has that ranking and that weight."""
    names, (dishes, tasters) = state
    return (names, (dishes, tasters[:taster] + ((ranking, weight),) + tasters[taster + 1:]))


def with_taster(state, name, ranking, weight):
    """Return the state with one more taster."""
    names, table = state
    if not is_name(name):
        raise NoName(name)
    if name in names:
        raise NameTaken(name)
    dishes, tasters = add_taster(table, ranking, weight)
    # The new taster stands at the end; it moves to the place of its name.
    place = len([other for other in names if other < name])
    moved = tasters[:place] + tasters[-1:] + tasters[place:-1]
    return (names[:place] + (name,) + names[place:], (dishes, moved))


def without_taster(state, name):
    """Return the state without that taster."""
    names, (dishes, tasters) = state
    taster = taster_named(state, name)
    return (names[:taster] + names[taster + 1:], (dishes, tasters[:taster] + tasters[taster + 1:]))


def with_ranking(state, name, ranking):
    """Return the state in which that taster has that ranking."""
    dishes, tasters = state[1]
    taster = taster_named(state, name)
    if not is_ranking(dishes, ranking):
        raise NoRanking(ranking)
    return replaced(state, taster, ranking, tasters[taster][1])


def with_weight(state, name, weight):
    """Return the state in which that taster has that weight."""
    tasters = state[1][1]
    taster = taster_named(state, name)
    if not is_weight(weight):
        raise NoWeight(weight)
    return replaced(state, taster, tasters[taster][0], weight)


def without_dish(state, dish):
    """Return the state without that dish."""
    names, table = state
    return (names, remove_dish(table, dish))


ACTIONS = {
    "add": with_taster,
    "discard": without_taster,
    "set_ranking": with_ranking,
    "set_weight": with_weight,
    "drop_dish": without_dish,
}
ARGUMENTS = {"add": 3, "discard": 1, "set_ranking": 2, "set_weight": 2, "drop_dish": 1}


def is_operation(value):
    """Return whether value is a tuple of the name of an operation and as many arguments as it takes."""
    if not isinstance(value, tuple) or len(value) == 0 or not isinstance(value[0], str):
        return False
    return value[0] in ARGUMENTS and len(value) == 1 + ARGUMENTS[value[0]]


def is_batch(value):
    """Return whether value is a list or tuple of at most MAX_BATCH operations."""
    if not isinstance(value, (list, tuple)) or len(value) > MAX_BATCH:
        return False
    return all([is_operation(operation) for operation in value])


def is_seatable_state(state):
    """Return whether the tasters are seatable, or there are none."""
    names, table = state
    return len(names) == 0 or find_seating(table) is not None
