"""Obstructions, which show that a table has no seating, and certificates."""

from tasterow.errors import NotSeatable
from tasterow.rankings import all_pairs
from tasterow.seatings import find_seating, is_seating, sides
from tasterow.values import ascending_tuples, is_ascending


def is_pair(dishes, value):
    """Return whether value is a pair of that many dishes."""
    return is_ascending(value, 0, dishes - 1) and len(value) == 2


def are_pairs(dishes, value, length):
    """Return whether value is a tuple of that many pairs."""
    if not isinstance(value, tuple) or len(value) != length:
        return False
    return all([is_pair(dishes, pair) for pair in value])


def are_tasters(table, value, length):
    """Return whether value is an ascending tuple of that many tasters."""
    return is_ascending(value, 0, len(table[1]) - 1) and len(value) == length


def is_alone(table, tasters, at, pair):
    """Return whether the taster at that index differs on the pair from all others of the tuple."""
    marks = sides(table, pair)
    own = marks[tasters[at]]
    return [marks[taster] for taster in tasters].count(own) == 1


def is_triple(table, tasters, pairs):
    """Return whether the two values are those of a triple."""
    if not are_tasters(table, tasters, 3) or not are_pairs(table[0], pairs, 3):
        return False
    return all([is_alone(table, tasters, at, pair) for at, pair in enumerate(pairs)])


def is_quadruple(table, tasters, pairs):
    """Return whether the two values are those of a quadruple."""
    if not are_tasters(table, tasters, 4) or not are_pairs(table[0], pairs, 2):
        return False
    one, other = sides(table, pairs[0]), sides(table, pairs[1])
    # Four tasters cannot differ from one another if they have fewer than four views.
    return pairs[0] < pairs[1] and len({(one[taster], other[taster]) for taster in tasters}) == 4


def is_obstruction(table, value):
    """Return whether value is an obstruction of the table."""
    if not isinstance(value, tuple) or len(value) != 3:
        return False
    word, tasters, pairs = value
    if word == "triple":
        return is_triple(table, tasters, pairs)
    return word == "quadruple" and is_quadruple(table, tasters, pairs)


def views_of(table):
    """Return the ascending list of all (pair, sides)."""
    return [(pair, sides(table, pair)) for pair in all_pairs(table[0])]


def find_triple(views, tasters):
    """Return a triple with just these three tasters, or None."""
    pairs = {}
    for pair, marks in views:
        along = [marks[taster] for taster in tasters]
        count = along.count(True)
        if count == 1 or count == 2:
            # The mark that occurs once is True if there is one True.
            pairs.setdefault(along.index(count == 1), pair)
    if len(pairs) < 3:
        return None
    return ("triple", tasters, (pairs[0], pairs[1], pairs[2]))


def find_quadruple(views, tasters):
    """Return a quadruple with just these four tasters, or None."""
    pairs = {}
    for pair, marks in views:
        first, *rest = [marks[taster] for taster in tasters]
        # No two agree on both pairs if each pair has two tasters on each side,
        # and the first taster has another partner on each.
        if rest.count(first) == 1:
            pairs.setdefault(rest.index(first), pair)
    if len(pairs) < 2:
        return None
    return ("quadruple", tasters, tuple(sorted(pairs.values())[:2]))


def find_conflict(views, tasters):
    """Return an obstruction with just these three or four tasters, or None."""
    return find_triple(views, tasters) if len(tasters) == 3 else find_quadruple(views, tasters)


def possible_conflicts(table):
    """Return all ascending tuples of three tasters, and then those of four."""
    size = len(table[1])
    return ascending_tuples(size, 3) + ascending_tuples(size, 4)


def find_obstruction(table):
    """Return an obstruction, or None if there is none."""
    views = views_of(table)
    for tasters in possible_conflicts(table):
        found = find_conflict(views, tasters)
        if found is not None:
            return found
    return None


def first_seating(table):
    """Return the smallest seating in tuple order."""
    seating = find_seating(table)
    if seating is None:
        raise NotSeatable(find_obstruction(table))
    return seating


def certificate(table):
    """Return ("seating", s) with the first seating s, or an obstruction."""
    seating = find_seating(table)
    return find_obstruction(table) if seating is None else ("seating", seating)


def is_certificate(table, value):
    """Return whether value is ("seating", s) with any seating s, or any obstruction."""
    if not isinstance(value, tuple) or len(value) != 2:
        return is_obstruction(table, value)
    word, seating = value
    return word == "seating" and is_seating(table, seating)


def without_one(tasters):
    """Return the list of the tuples without one of the tasters."""
    return [tasters[:at] + tasters[at + 1:] for at in range(len(tasters))]


def minimal_conflicts(table):
    """Return the ascending tuple of all minimal sets of tasters that are not seatable."""
    views = views_of(table)
    found = {}
    # Those of three tasters come first, so that those of four are compared with them.
    for tasters in possible_conflicts(table):
        smaller = [rest for rest in without_one(tasters) if rest in found]
        if not smaller and find_conflict(views, tasters) is not None:
            found[tasters] = True
    return tuple(sorted(list(found)))
