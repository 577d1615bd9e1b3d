"""Extensions: where a taster with one more ranking can sit, or why there is no place."""

from tasterow.errors import NoRanking, TooMany
from tasterow.obstructions import find_obstruction, first_seating, is_obstruction
from tasterow.rankings import count_rankings, is_ranking, ranking_at
from tasterow.seatings import find_seating, is_seating
from tasterow.values import is_whole

MAX_LISTED = 5


def extended(table, ranking):
    """Return the extended table, which may have MAX_TASTERS + 1 tasters."""
    dishes, tasters = table
    # Seatings and obstructions do not depend on the weight.
    return (dishes, tasters + ((ranking, 1),))


def check_addition(table, ranking):
    """Raise NotSeatable or NoRanking if a function of the table and the ranking has to."""
    first_seating(table)
    if not is_ranking(table[0], ranking):
        raise NoRanking(ranking)


def can_add(table, ranking):
    """Return whether the extended table is seatable."""
    check_addition(table, ranking)
    return find_seating(extended(table, ranking)) is not None


def insert_positions(table, ranking):
    """Return the ascending tuple of all indexes of the first seating at which the new taster fits."""
    check_addition(table, ranking)
    seating = first_seating(table)
    new = len(seating)
    rows = [seating[:at] + (new,) + seating[at:] for at in range(new + 1)]
    return tuple([at for at, row in enumerate(rows) if is_seating(extended(table, ranking), row)])


def add_certificate(table, ranking):
    """Return ("position", k) with the lowest insert position, or ("obstruction", o)."""
    positions = insert_positions(table, ranking)
    if positions:
        return ("position", positions[0])
    return ("obstruction", find_obstruction(extended(table, ranking)))


def is_add_certificate(table, ranking, value):
    """Return whether value is ("position", k) or ("obstruction", o), whichever k and o."""
    check_addition(table, ranking)
    if not isinstance(value, tuple) or len(value) != 2:
        return False
    word, proof = value
    if word == "position":
        return is_whole(proof) and proof in insert_positions(table, ranking)
    return word == "obstruction" and is_obstruction(extended(table, ranking), proof)


def addable_rankings(table):
    """Return the ascending tuple of all rankings that can be added."""
    first_seating(table)
    dishes = table[0]
    if dishes > MAX_LISTED:
        raise TooMany(MAX_LISTED)
    rankings = [ranking_at(dishes, index) for index in range(count_rankings(dishes))]
    return tuple([ranking for ranking in rankings if find_seating(extended(table, ranking)) is not None])
