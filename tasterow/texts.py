"""Texts: rankings, tables, seatings and obstructions written and read."""

from tasterow.errors import BadText
from tasterow.limits import MAX_DISHES, MAX_TASTERS
from tasterow.obstructions import are_pairs
from tasterow.rankings import is_ranking
from tasterow.tables import is_taster
from tasterow.values import is_ascending, is_within

DIGITS = "0123456789"
MAX_DIGITS = 13

# How many tasters and how many pairs stand behind each word.
OBSTRUCTION_SIZES = {"triple": (3, 3), "quadruple": (4, 2)}


def format_ranking(ranking):
    """Return the dishes joined by the sign for better."""
    return ">".join([str(dish) for dish in ranking])


def format_table(table):
    """Return the lines of the number of dishes and of each taster."""
    dishes, tasters = table
    rows = [f"{weight} {format_ranking(ranking)}\n" for ranking, weight in tasters]
    return "".join([f"{dishes}\n", *rows])


def format_seating(seating):
    """Return the tasters joined by spaces."""
    return " ".join([str(taster) for taster in seating])


def format_obstruction(obstruction):
    """Return the word, the tasters and the pairs, separated by spaces."""
    word, tasters, pairs = obstruction
    numbers = ",".join([str(taster) for taster in tasters])
    dishes = ",".join([f"{low}-{high}" for low, high in pairs])
    return f"{word} {numbers} {dishes}"


def read_number(text):
    """Return the integer with that text, or None."""
    if not 1 <= len(text) <= MAX_DIGITS or not all([sign in DIGITS for sign in text]):
        return None
    # 0 itself is the only text that begins with 0.
    return None if len(text) > 1 and text[0] == "0" else int(text)


def read_numbers(text, sign):
    """Return the tuple of the integers whose texts are joined by that sign, or None."""
    numbers = tuple([read_number(part) for part in text.split(sign)])
    return None if None in numbers else numbers


def read_taster(dishes, text):
    """Return (ranking, weight) with that text, or None if there is no such taster of so many dishes."""
    words = text.split(" ")
    if len(words) != 2:
        return None
    taster = (read_numbers(words[1], ">"), read_number(words[0]))
    return taster if is_taster(dishes, taster) else None


def read_obstruction(text):
    """Return the obstruction with that text, or None."""
    words = text.split(" ")
    if len(words) != 3 or words[0] not in OBSTRUCTION_SIZES:
        return None
    many, length = OBSTRUCTION_SIZES[words[0]]
    tasters = read_numbers(words[1], ",")
    if not is_ascending(tasters, 0, MAX_TASTERS) or len(tasters) != many:
        return None
    pairs = tuple([read_numbers(part, "-") for part in words[2].split(",")])
    if not are_pairs(MAX_DISHES, pairs, length):
        return None
    # Only the pairs of a quadruple have an order.
    if words[0] == "quadruple" and pairs[0] >= pairs[1]:
        return None
    return (words[0], tasters, pairs)


def check_string(value):
    """Raise BadText(None) unless value is a string."""
    if not isinstance(value, str):
        raise BadText(None)


def parse_ranking(value):
    """Return the ranking with that text."""
    check_string(value)
    ranking = read_numbers(value, ">")
    if ranking is None or not is_ranking(len(ranking), ranking):
        raise BadText(0)
    return ranking


def parse_table(value):
    """Return the table with that text."""
    check_string(value)
    # Behind the last line end stands nothing, or a line without a line end.
    *lines, rest = value.split("\n")
    dishes = read_number(lines[0]) if lines else None
    if not is_within(dishes, 1, MAX_DISHES):
        raise BadText(0)
    tasters = []
    for at, line in enumerate(lines[1:], start=1):
        taster = read_taster(dishes, line)
        if taster is None or at > MAX_TASTERS:
            raise BadText(at)
        tasters.append(taster)
    if rest or not tasters:
        raise BadText(len(lines))
    return (dishes, tuple(tasters))


def parse_obstruction(value):
    """Return the obstruction with that text."""
    check_string(value)
    obstruction = read_obstruction(value)
    if obstruction is None:
        raise BadText(0)
    return obstruction
