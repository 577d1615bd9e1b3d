"""Points 31 to 35, and 3 (b): counting and numbering seatings."""

import random
from math import factorial, prod

from helper import (
    FOUR, LONG, T, U, Case, large_tables, odd_values, resized, seatings, small_tables, spoiled, weigh,
)
from tasterow.counting import count_seatings, group_order, seating_at, seating_index
from tasterow.errors import NoIndex, NoSeating
from tasterow.seatings import is_seating

ONE = weigh(3, [(2, 0, 1)] * 16)
A, B, C = (0, 1, 2), (1, 0, 2), (1, 2, 0)
# The tasters of the two end groups alternate.
MIXED = weigh(3, [A, C, B, A, C, C, A, B, A, C, B, C, A, A, B, C])


def seatable_tables():
    return [table for table in small_tables() if seatings(table)]


def unseatable_tables():
    return [table for table in small_tables() if not seatings(table)]


def groups_along(table, seating):
    """The groups in the order in which they sit, each ascending."""
    rows = [ranking for ranking, weight in table[1]]
    found = []
    for taster in seating:
        if not found or rows[found[-1][0]] != rows[taster]:
            found.append([])
        found[-1].append(taster)
    return tuple(tuple(sorted(group)) for group in found)


def number_by_groups(table):
    rows = [ranking for ranking, weight in table[1]]
    number = prod(factorial(rows.count(row)) for row in set(rows))
    return number * (2 if len(set(rows)) > 1 else 1)


class Counting(Case):

    def test_small_tables(self):
        for table in small_tables():
            self.same(self.call(count_seatings, table), len(seatings(table)))

    def test_large_tables(self):
        for table, rankings in large_tables():
            self.same(self.call(count_seatings, table), number_by_groups(table))

    def test_sixteen_tasters(self):
        self.same(self.call(count_seatings, ONE), factorial(16))
        self.same(self.call(count_seatings, MIXED), 2 * factorial(6) * factorial(6) * factorial(4))
        self.same(self.call(count_seatings, weigh(8, [tuple(range(8))])), 1)

    def test_no_seating(self):
        for table in (U, FOUR):
            self.same(self.call(count_seatings, table), 0)


class Numbering(Case):

    def test_the_ascending_list_of_small_tables(self):
        for table in seatable_tables():
            for index, seating in enumerate(seatings(table)):
                self.same(seating_at(table, index), seating)
                self.same(seating_index(table, seating), index)

    def test_arguments_stay(self):
        for table in seatable_tables()[::7]:
            for index, seating in list(enumerate(seatings(table)))[::5]:
                self.same(self.call(seating_at, table, index), seating)
                self.same(self.call(seating_index, table, seating), index)

    def test_ends_of_two_groups_alternate(self):
        table = weigh(2, [(0, 1), (1, 0), (0, 1), (1, 0), (0, 1)])
        firsts = [seating_at(table, index)[0] for index in range(24)]
        self.assertEqual(firsts, [0] * 4 + [1] * 6 + [2] * 4 + [3] * 6 + [4] * 4)

    def check_large(self, table):
        number = number_by_groups(table)
        source = random.Random(8)
        indexes = {0, 1, number - 2, number - 1, number // 2, *[source.randrange(number) for k in range(20)]}
        previous = ()
        for index in sorted(index for index in indexes if 0 <= index < number):
            seating = self.call(seating_at, table, index)
            self.same(is_seating(table, seating), True)
            self.assertLess(previous, seating)
            self.same(self.call(seating_index, table, seating), index)
            previous = seating

    def test_large_tables(self):
        for table in (ONE, MIXED, *[table for table, rankings in large_tables()]):
            self.check_large(table)

    def test_neighbours_in_a_large_table(self):
        # Seatings that differ only in the last group are numbered one by one.
        for start in (0, 10 ** 6, 7 * 10 ** 6):
            rows = [seating_at(MIXED, start + step) for step in range(200)]
            self.assertEqual(rows, sorted(set(rows)))
            self.assertEqual([seating_index(MIXED, row) for row in rows], list(range(start, start + 200)))

    def test_first_and_last(self):
        self.same(seating_at(ONE, 0), tuple(range(16)))
        self.same(seating_at(ONE, factorial(16) - 1), tuple(range(16))[::-1])
        self.same(seating_at(MIXED, 0), (0, 3, 6, 8, 12, 13, 2, 7, 10, 14, 1, 4, 5, 9, 11, 15))

    def test_integers_that_are_no_index(self):
        for table in [*seatable_tables()[::9], ONE, MIXED]:
            number = number_by_groups(table)
            for index in (-1, -number, number, number + 1, 2 * number, LONG, -LONG):
                with self.subTest(table=table, index=index):
                    self.fails(NoIndex, {"index": index}, seating_at, table, index)

    def test_values_that_are_no_index(self):
        for table in (T, ONE, MIXED, weigh(1, [(0,)])):
            for index in odd_values():
                if type(index) is not int:
                    with self.subTest(table=table, index=index):
                        self.fails(NoIndex, {"index": index}, seating_at, table, index)

    def test_not_seatable_comes_first(self):
        for table in (U, FOUR, *unseatable_tables()[::20]):
            for value in (0, 1, -1, LONG, True, None, (), (0, 2, 1, 3), [0]):
                self.not_seatable(table, seating_at, table, value)
                self.not_seatable(table, seating_index, table, value)

    def test_orders_that_are_no_seatings(self):
        for value in ((0, 1, 2), (1, 0, 2), (2, 0, 1), (2, 1, 0), (0, 2, 1, 3), (0, 2), (0, 2, 2), (1, 2, 3)):
            self.fails(NoSeating, {}, seating_index, T, value)

    def test_values_that_are_no_seatings(self):
        for table in (T, weigh(2, [(0, 1)] * 3)):
            for value in [*odd_values(), *spoiled((0, 2, 1)), *resized((0, 2, 1)), (False, 2, 1), (0, 2, True)]:
                with self.subTest(table=table, value=value):
                    self.fails(NoSeating, {}, seating_index, table, value)


class GroupOrder(Case):

    def test_small_tables(self):
        for table in small_tables():
            if seatings(table):
                self.same(self.call(group_order, table), groups_along(table, seatings(table)[0]))
            else:
                self.not_seatable(table, group_order, table)

    def test_every_seating_has_that_order_or_its_reverse(self):
        for table in seatable_tables()[::3]:
            order = group_order(table)
            for seating in seatings(table):
                self.assertIn(groups_along(table, seating), (order, order[::-1]))

    def test_large_tables(self):
        for table, rankings in large_tables():
            rows = [ranking for ranking, weight in table[1]]
            found = {tuple(k for k, row in enumerate(rows) if row == one) for one in rows}
            along = sorted(found, key=lambda group: rankings.index(rows[group[0]]))
            expected = min(along, along[::-1])
            self.same(self.call(group_order, table), tuple(expected))

    def test_one_group_and_three(self):
        self.same(self.call(group_order, ONE), (tuple(range(16)),))
        expected = ((0, 3, 6, 8, 12, 13), (2, 7, 10, 14), (1, 4, 5, 9, 11, 15))
        self.same(self.call(group_order, MIXED), expected)
