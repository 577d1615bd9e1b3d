"""What the tests share: strict comparison, values of unusual kinds, tables, and slow definitions."""

import functools
import random
import unittest
from itertools import combinations, permutations, product

from tasterow.errors import NotSeatable

LONG = int("9" * 60)
TOP = 10 ** 12
T = (3, (((0, 1, 2), 1), ((2, 1, 0), 1), ((1, 0, 2), 2)))
U = (3, (((0, 1, 2), 1), ((2, 1, 0), 1), ((1, 0, 2), 2), ((0, 2, 1), 1)))
# Its four tasters form a quadruple, but no three of them form a triple.
FOUR = (4, (((0, 1, 2, 3), 1), ((1, 0, 3, 2), 2), ((1, 0, 2, 3), 3), ((0, 1, 3, 2), 4)))

# A line with both limits of the numbers.
STEEP = ((TOP, -TOP), (-TOP, TOP), (0, 0), (TOP, TOP), (-TOP, -TOP), (1, -1), (-1, 1), (TOP, -1))


def odd_values():
    """Values of every kind that a caller may pass as `value`, made anew."""
    deep = ()
    for level in range(19):
        deep = (deep, level) if level & 1 else [deep, level]
    return [
        None, True, False, 0, 1, -1, 5, LONG, -LONG,
        "", "0", "012", "text\nlines\n" * 400,
        [], [0], [0, 1, 2], [[0], [1]],
        (), (0,), (None,), (True,), (False,), ("0",), ((0,),), ([0],), ({},),
        (LONG,), (-1, 0), (0, 0), ((0, 1), (1, 2)),
        {}, {0: 0}, {"a": [1, (2, None)]}, {(0, 1): {"b": ()}},
        deep, list(range(1990)), tuple(range(1990)),
    ]


def replacements(part):
    """Values of other kinds that a careless check takes for the part."""
    found = [None, [part], (part,), {}]
    if isinstance(part, str):
        return found + ["", part[1:], part + "s", part.upper(), " " + part, {part: part}, 0, True]
    found.append(str(part))
    if isinstance(part, tuple):
        found += [list(part), dict(enumerate(part)), (), []]
    if isinstance(part, int) and part in (0, 1):
        found += [bool(part)]
    return found


def spoiled(value):
    """The value with one part, at any depth, replaced by one of another kind."""
    found = replacements(value)
    if isinstance(value, tuple):
        for at, part in enumerate(value):
            found += [(*value[:at], other, *value[at + 1:]) for other in spoiled(part)]
    return found


def resized(value):
    """The value with one part, at any depth, left out, or written twice."""
    found = []
    if isinstance(value, tuple):
        for at, part in enumerate(value):
            found += [value[:at] + value[at + 1:], (*value[:at], part, part, *value[at + 1:])]
            found += [(*value[:at], other, *value[at + 1:]) for other in resized(part)]
        found += [(*value, None), (*value, ())]
    return found


def weigh(dishes, rankings):
    """The table of these rankings, with different weights."""
    return (dishes, tuple((ranking, 1 + 3 * at % 7) for at, ranking in enumerate(rankings)))


def random_rankings(source, dishes, many):
    return [tuple(source.sample(range(dishes), dishes)) for taster in range(many)]


def random_chain(source, dishes):
    """The rankings on a way from a ranking to its reverse by swaps of neighbours."""
    ranks = list(range(dishes))
    names = source.sample(range(dishes), dishes)
    rows = [tuple(ranks)]
    while places := [at for at in range(dishes - 1) if ranks[at] < ranks[at + 1]]:
        at = source.choice(places)
        ranks[at], ranks[at + 1] = ranks[at + 1], ranks[at]
        rows.append(tuple(ranks))
    return [tuple(names[rank] for rank in row) for row in rows]


def seatable_rankings(source, dishes, many):
    return source.choices(random_chain(source, dishes), k=many)


@functools.cache
def small_tables():
    """Tables of at most six tasters, with and without seatings, with and without equal rankings."""
    found = [T, U, FOUR]
    for dishes, many in ((1, 1), (1, 3), (2, 1), (2, 2), (2, 3), (2, 4), (3, 1), (3, 2), (3, 3)):
        found += [weigh(dishes, rows) for rows in product(permutations(range(dishes)), repeat=many)]
    found += [weigh(3, rows) for rows in list(product(permutations(range(3)), repeat=4))[::7]]
    source = random.Random(5)
    for dishes, many in ((3, 5), (4, 4), (4, 5), (5, 4), (5, 5), (8, 5), (4, 6)):
        for attempt in range(8):
            rows = seatable_rankings(source, dishes, many)
            other = rows[:-1] + random_rankings(source, dishes, 1)
            found += [weigh(dishes, row) for row in (rows, other, random_rankings(source, dishes, many))]
    return found


@functools.cache
def large_tables():
    """Pairs (table, chain that contains its rankings) with many tasters and dishes."""
    source = random.Random(6)
    found = []
    for dishes, many in ((8, 16), (8, 15), (7, 16), (5, 16), (3, 16), (2, 16), (1, 16), (8, 10)):
        for attempt in range(3):
            chain = random_chain(source, dishes)
            found.append((weigh(dishes, source.choices(chain, k=many)), chain))
    return found


def rankings(dishes):
    return list(permutations(range(dishes)))


def gap(one, other):
    """The number of pairs that differ."""
    return sum(
        (one.index(low) < one.index(high)) != (other.index(low) < other.index(high))
        for low, high in combinations(range(len(one)), 2)
    )


def swapped(row, at):
    row = list(row)
    row[at], row[at + 1] = row[at + 1], row[at]
    return tuple(row)


def neighbours(row):
    return [swapped(row, at) for at in range(len(row) - 1)]


@functools.cache
def shortest_paths(one, other):
    """All shortest paths, by a search through all paths that are not too long."""
    paths = [(one,)]
    for left in range(gap(one, other) - 1, -1, -1):
        paths = [(*path, row) for path in paths for row in neighbours(path[-1]) if gap(row, other) <= left]
    return paths


def swap_steps(one, other):
    """The shortest path of which each step is at the lowest suitable index."""
    path = [one]
    while path[-1] != other:
        row = path[-1]
        at = min(k for k in range(len(row) - 1) if other.index(row[k + 1]) < other.index(row[k]))
        path.append(swapped(row, at))
    return tuple(path)


def sides(table):
    """For each taster, an integer with one bit for each pair: whether it prefers the lower dish."""
    pairs = list(combinations(range(table[0]), 2))
    return [
        sum(1 << at for at, (low, high) in enumerate(pairs) if ranking.index(low) < ranking.index(high))
        for ranking, weight in table[1]
    ]


def sits(row):
    """Whether no three in a row of such integers break the definition of a seating."""
    return not any(~(x ^ z) & (x ^ y) for x, y, z in combinations(row, 3))


@functools.cache
def seatings(table):
    """The ascending list of all seatings, by the definition."""
    marks = sides(table)
    return [order for order in permutations(range(len(marks))) if sits([marks[at] for at in order])]


@functools.cache
def seatable_marks(marks):
    return any(sits(order) for order in permutations(marks))


def is_seatable(table, tasters):
    """Whether these tasters are seatable by themselves, by the definition."""
    marks = sides(table)
    return seatable_marks(tuple(marks[taster] for taster in tasters))


def unseatable_tables():
    return [table for table in small_tables() if not seatings(table)]


def seatable_tables():
    return [table for table in small_tables() if seatings(table)]


@functools.cache
def large_unseatable_tables():
    """Tables of many tasters without a seating: rankings at random, and a chain with one changed."""
    source = random.Random(7)
    found = [weigh(8, random_rankings(source, 8, 16)) for attempt in range(3)]
    for table, chain in large_tables():
        rows = [ranking for ranking, weight in table[1]]
        rows[9:10] = random_rankings(source, table[0], 1)
        table = weigh(table[0], rows)
        if not all(is_seatable(table, tasters) for tasters in combinations(range(len(rows)), 4)):
            found.append(table)
    return found


def first_by_chain(table, chain):
    """The smallest seating: the order of a chain or its reverse, equal rankings ascending."""
    places = [chain.index(ranking) for ranking, weight in table[1]]
    tasters = range(len(places))
    return min(
        tuple(sorted(tasters, key=lambda taster: (places[taster], taster))),
        tuple(sorted(tasters, key=lambda taster: (-places[taster], taster))),
    )


def obstructs(table, value):
    """Whether a value of the right form is an obstruction, by the definition."""
    word, tasters, pairs = value
    rows = [table[1][taster][0] for taster in tasters]
    marks = [[row.index(low) < row.index(high) for row in rows] for low, high in pairs]
    if word == "triple":
        return all(marks[at][at] != mark for at in range(3) for k, mark in enumerate(marks[at]) if k != at)
    return all(one != other for one, other in combinations(zip(*marks), 2))


def right_form(table, value):
    """Whether a value made of tuples has the form of an obstruction of a table of that size."""
    word, tasters, pairs = value
    many = {"triple": 3, "quadruple": 4}[word]
    return (
        tasters in combinations(range(len(table[1])), many)
        and len(pairs) == {"triple": 3, "quadruple": 2}[word]
        and all(pair in combinations(range(table[0]), 2) for pair in pairs)
        and (word == "triple" or pairs[0] < pairs[1])
    )


def line_ranked(line, t):
    """The ranking of taster t: again and again the dish of the greatest worth, the lowest of several."""
    left = {dish: height + slope * t for dish, (height, slope) in enumerate(line)}
    order = []
    while left:
        best = max(left.values())
        order.append(min(dish for dish in left if left[dish] == best))
        del left[order[-1]]
    return tuple(order)


def short_lines():
    """Lines of one to eight dishes whose pairs change among the first tasters."""
    source = random.Random(13)
    found = [((0, 1), (5, 0), (10, -1)), ((0, 0),), ((3, 1), (3, 1)), ((0, 0), (0, 0), (0, 0))]
    found += [((5, -1), (0, 0)), ((0, 0), (5, -1))]
    for dishes in range(1, 9):
        for reach in (3, 12, 60):
            for attempt in range(3):
                found.append(tuple(
                    (source.randint(-reach, reach), source.randint(-4, 4)) for dish in range(dishes)
                ))
    # All pairs change at one place, and all pairs but one are tied there.
    found.append(tuple((20 - 4 * slope, slope) for slope in range(8)))
    found.append(tuple((20 - 4 * slope, slope) for slope in (3, -2, 7, 0, 5, -6)))
    return found


def long_lines():
    """Lines whose pairs change anywhere between 0 and the last taster."""
    source = random.Random(14)
    found = [STEEP, STEEP[::-1], ((0, 1), (TOP, 0)), ((TOP, 0), (0, 1)), ((TOP, -1), (0, 0)), ((0, 0), (TOP, -1))]
    for dishes in range(2, 9):
        for steep in (3, 1000, TOP):
            found.append(tuple(
                (source.randint(-TOP, TOP), source.randint(-steep, steep)) for dish in range(dishes)
            ))
    return found


def wrong_spans():
    """Pairs that are no spans."""
    odd = [value for value in odd_values() if type(value) is not int]
    found = [(1, 0), (5, 4), (TOP, TOP - 1), (TOP, 0), (-1, 0), (-1, -1), (0, -1), (0, TOP + 1)]
    found += [(TOP + 1, TOP + 1), (TOP, TOP + 1), (-LONG, LONG), (0, LONG), (LONG, LONG), (-5, 10)]
    found += [(True, 5), (False, 5), (0, True), (False, False), (True, True), (0, False), ("0", "5"), ((0,), (5,))]
    return found + [(value, 5) for value in odd] + [(0, value) for value in odd] + [(value, value) for value in odd]


class Case(unittest.TestCase):
    """A test case that tells True from 1 and watches arguments."""

    def same(self, actual, expected):
        # The repr tells kinds apart that are equal: 1 and True, also inside tuples.
        self.assertEqual(repr(actual), repr(expected))

    def call(self, function, *arguments):
        """Call twice: the results are the same and the arguments stay as they are."""
        before = repr(arguments)
        result = function(*arguments)
        self.assertEqual(repr(arguments), before)
        self.same(function(*arguments), result)
        self.assertEqual(repr(arguments), before)
        return result

    def caught(self, error, function, *arguments):
        """Call twice: each call raises just that error. Return the attributes of both."""
        before = repr(arguments)
        found = []
        for attempt in range(2):
            with self.assertRaises(error) as caught:
                function(*arguments)
            self.assertIs(type(caught.exception), error)
            self.assertEqual(repr(arguments), before)
            found.append(vars(caught.exception))
        return found

    def fails(self, error, attributes, function, *arguments):
        """Each call raises just that error with just those attributes."""
        for found in self.caught(error, function, *arguments):
            self.assertEqual(list(found), list(attributes))
            for name in attributes:
                self.assertIs(found[name], attributes[name])

    def not_seatable(self, table, function, *arguments):
        """Each call raises NotSeatable with an obstruction of the table."""
        one, other = self.caught(NotSeatable, function, *arguments)
        self.same(one, other)
        self.assertEqual(list(one), ["obstruction"])
        self.is_obstruction_of(table, one["obstruction"])

    def is_obstruction_of(self, table, value):
        self.assertIsInstance(value, tuple)
        self.assertNotIn("True", repr(value))
        self.assertNotIn("False", repr(value))
        self.assertTrue(right_form(table, value), value)
        self.assertTrue(obstructs(table, value), value)
