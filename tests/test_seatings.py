"""Points 22 to 24, and 3 (c): seatings."""

from itertools import combinations, permutations, product

from helper import (
    LONG, T, U, Case, large_tables, odd_values, resized, seatings, sides, sits, small_tables, spoiled, weigh,
)
from tasterow.errors import NoTaster
from tasterow.obstructions import first_seating
from tasterow.rankings import differences
from tasterow.seatings import is_seating, splits


def by_chain(table, rankings):
    """The tasters of a table in the order of a chain that contains their rankings."""
    places = [rankings.index(ranking) for ranking, weight in table[1]]
    return tuple(sorted(range(len(places)), key=lambda taster: places[taster]))


def changed_on(table, taster, pair):
    """The tasters on the other side of the pair."""
    low, high = pair
    gaps = [ranking.index(low) - ranking.index(high) for ranking, weight in table[1]]
    return tuple(other for other, gap in enumerate(gaps) if gap * gaps[taster] < 0)


class IsSeating(Case):

    def test_every_order_of_small_tables(self):
        for table in small_tables():
            expected = set(seatings(table))
            for order in permutations(range(len(table[1]))):
                self.same(is_seating(table, order), order in expected)

    def test_arguments_stay(self):
        for table in small_tables()[::9]:
            for order in list(permutations(range(len(table[1]))))[::5]:
                self.same(self.call(is_seating, table, order), order in seatings(table))

    def test_large_tables(self):
        for table, rankings in large_tables():
            order = by_chain(table, rankings)
            self.same(self.call(is_seating, table, order), True)
            self.same(self.call(is_seating, table, order[::-1]), True)

    def test_large_tables_with_two_tasters_exchanged(self):
        for table, rankings in large_tables():
            order, marks = by_chain(table, rankings), sides(table)
            for one, other in combinations(range(0, len(order), 3), 2):
                row = list(order)
                row[one], row[other] = row[other], row[one]
                expected = sits([marks[taster] for taster in row])
                self.same(is_seating(table, tuple(row)), expected)

    def test_tuples_that_are_no_orders(self):
        equal = weigh(2, [(0, 1)] * 3)
        for size in range(5):
            for value in product(range(-1, 4), repeat=size):
                self.same(is_seating(equal, value), sorted(value) == [0, 1, 2])

    def test_changed_seatings(self):
        for table in (T, weigh(2, [(0, 1)] * 4), weigh(1, [(0,)])):
            for order in seatings(table):
                for value in spoiled(order) + resized(order):
                    with self.subTest(table=table, value=value):
                        self.same(self.call(is_seating, table, value), False)

    def test_truth_values_are_no_tasters(self):
        one, two = weigh(2, [(0, 1)]), weigh(2, [(0, 1), (1, 0)])
        self.same(self.call(is_seating, one, (False,)), False)
        for value in ((False, 1), (0, True), (True, 0), (1, False), (True, False)):
            self.same(self.call(is_seating, two, value), False)

    def test_any_value(self):
        for table in (T, U, weigh(1, [(0,)]), weigh(8, [tuple(range(8))] * 16)):
            for value in odd_values():
                expected = len(table[1]) == 1 and repr(value) == "(0,)"
                with self.subTest(table=table, value=value):
                    self.same(self.call(is_seating, table, value), expected)

    def test_the_names_of_a_seating_are_numbers_of_this_table(self):
        self.same(self.call(is_seating, T, (0, 2, 1, 3)), False)
        self.same(self.call(is_seating, T, (1, 3, 2)), False)
        self.same(self.call(is_seating, U, (0, 2, 1)), False)
        self.same(self.call(is_seating, T, (0, 2, LONG)), False)


class Splits(Case):

    def test_against_the_definition(self):
        for table in [*small_tables(), *[table for table, rankings in large_tables()]]:
            pairs = list(combinations(range(table[0]), 2))
            for taster in range(len(table[1])):
                found = {changed_on(table, taster, pair) for pair in pairs}
                expected = tuple(sorted(split for split in found if split))
                self.same(self.call(splits, table, taster), expected)

    def test_equal_rankings_have_no_splits(self):
        for many in (1, 2, 16):
            for dishes in (1, 2, 8):
                table = weigh(dishes, [tuple(range(dishes))] * many)
                for taster in range(many):
                    self.same(self.call(splits, table, taster), ())

    def test_no_taster(self):
        for table in (T, U, weigh(1, [(0,)]), weigh(2, [(0, 1)] * 16)):
            many = len(table[1])
            wrong = [value for value in odd_values() if type(value) is not int or not 0 <= value < many]
            for taster in [*wrong, many, many + 1, -many]:
                with self.subTest(table=table, taster=taster):
                    self.fails(NoTaster, {"taster": taster}, splits, table, taster)


class Distances(Case):

    def check(self, table):
        rows = [table[1][taster][0] for taster in first_seating(table)]
        for start, end in combinations(range(len(rows)), 2):
            steps = [differences(rows[at], rows[at + 1]) for at in range(start, end)]
            # No pair occurs twice, so the union is disjoint.
            expected = sorted([pair for step in steps for pair in step])
            self.same(list(differences(rows[start], rows[end])), expected)

    def test_distances_add_up_along_a_seating(self):
        for table in small_tables():
            if seatings(table):
                self.check(table)
        for table, rankings in large_tables():
            self.check(table)
