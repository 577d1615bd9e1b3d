"""Points 13 to 21: tables."""

from itertools import chain, combinations, permutations, product

from helper import LONG, T, U, Case, large_tables, odd_values, resized, small_tables, spoiled, weigh
from tasterow.errors import LastOne, NoDish, NoMenu, NoRanking, NoTaster, NoWeight, TooMany
from tasterow.tables import (
    add_taster, groups, is_table, rankings_of, remove_dish, remove_taster, restrict, total_weight,
)

WRONG_WEIGHTS = (0, -1, 10 ** 12 + 1, LONG, -LONG, True, False, None, "1", (1,), [1], {1: 1})


def tables():
    return small_tables() + [table for table, rankings in large_tables()]


def full_table(dishes=3):
    return weigh(dishes, list(permutations(range(dishes)))[:1] * 16)


def without(row, dish):
    """The ranking without that dish, greater numbers decreased by 1."""
    return tuple(other - (other > dish) for other in row if other != dish)


class IsTable(Case):

    def check(self, value, expected):
        with self.subTest(value=value):
            self.same(self.call(is_table, value), expected)

    def test_tables(self):
        for table in tables():
            self.check(table, True)

    def test_numbers_of_dishes_and_tasters(self):
        for dishes, many in product(range(11), range(19)):
            table = (dishes, ((tuple(range(dishes)), 1),) * many)
            self.check(table, 1 <= dishes <= 8 and 1 <= many <= 16)

    def test_number_of_dishes_differs_from_the_rankings(self):
        for dishes, size in product((*range(-1, 10), LONG), range(1, 9)):
            self.check((dishes, ((tuple(range(size)), 1),)), dishes == size)
            self.check((dishes, ((tuple(range(size)), 1), (tuple(range(size + 1)), 1))), False)

    def test_weights(self):
        for weight in (1, 2, 10 ** 12 - 1, 10 ** 12):
            self.check((2, (((0, 1), weight),)), True)
            self.check((2, (((1, 0), 1), ((0, 1), weight))), True)
        for weight in WRONG_WEIGHTS:
            self.check((2, (((0, 1), weight),)), False)
            self.check((2, (((1, 0), 1), ((0, 1), weight))), False)

    def test_truth_values_are_no_integers(self):
        for value in (
            (True, (((0,), 1),)), (1, (((False,), 1),)), (1, (((0,), True),)),
            (2, (((0, True), 1),)), (2, (((0, 1), 1), ((False, 1), 1))),
        ):
            self.check(value, False)

    def test_one_part_of_another_kind(self):
        for table in (T, U, (1, (((0,), 1),)), (2, (((0, 1), 1), ((1, 0), 1)))):
            for value in spoiled(table):
                self.check(value, False)

    def test_one_part_too_many_or_too_few(self):
        for table in (T, U, (1, (((0,), 1),)), (2, (((0, 1), 1), ((1, 0), 1)))):
            whole = {(table[0], rows) for rows in resized_tasters(table[1])}
            for value in resized(table):
                self.check(value, value in whole)

    def test_rankings_that_are_none(self):
        for ranking in product(range(-1, 4), repeat=3):
            expected = sorted(ranking) == [0, 1, 2]
            self.check((3, ((ranking, 1),)), expected)
            self.check((3, (((0, 1, 2), 1), (ranking, 1))), expected)

    def test_any_value(self):
        for value in odd_values():
            self.check(value, False)
            self.check((3, value), False)
            self.check((value, (((0, 1, 2), 1),)), False)
            self.check((3, (value,)), False)
            self.check((3, (((0, 1, 2), 1), value)), False)
            self.check((3, ((value, 1),)), False)
            self.check((3, (((0, 1, 2), value),)), type(value) is int and value in (1, 5))


def resized_tasters(tasters):
    """The tuples of tasters with one of them left out or written twice, unless none is left."""
    found = []
    for at, taster in enumerate(tasters):
        found += [tasters[:at] + tasters[at + 1:], (*tasters[:at], taster, *tasters[at:])]
    return [rows for rows in found if rows]


class Reading(Case):

    def test_rankings_of(self):
        for table in tables():
            self.same(self.call(rankings_of, table), tuple(taster[0] for taster in table[1]))

    def test_total_weight(self):
        for table in tables():
            self.same(self.call(total_weight, table), sum(taster[1] for taster in table[1]))
        heavy = (2, (((0, 1), 10 ** 12),) * 15 + (((1, 0), 1),))
        self.same(self.call(total_weight, heavy), 15 * 10 ** 12 + 1)

    def test_groups(self):
        for table in tables():
            rows = [ranking for ranking, weight in table[1]]
            expected = {tuple(k for k, other in enumerate(rows) if other == row) for row in rows}
            self.same(self.call(groups, table), tuple(sorted(expected)))

    def test_groups_of_equal_rankings(self):
        self.same(self.call(groups, full_table()), (tuple(range(16)),))
        a, b, c = (0, 1, 2), (1, 0, 2), (2, 1, 0)
        self.same(groups(weigh(3, [c, a, c, b, a, a])), ((0, 2), (1, 4, 5), (3,)))


class AddTaster(Case):

    def test_one_more_taster(self):
        for table in small_tables():
            row = tuple(range(table[0]))[::-1]
            for weight in (1, 10 ** 12):
                expected = (table[0], (*table[1], (row, weight)))
                self.same(self.call(add_taster, table, row, weight), expected)

    def test_the_sixteenth_taster(self):
        for dishes in range(1, 9):
            full = full_table(dishes)
            self.same(self.call(add_taster, (dishes, full[1][:-1]), *full[1][-1]), full)

    def test_no_ranking(self):
        for ranking in [*odd_values(), (0, 1), (0, 1, 2, 3), (0, 1, True), (0, 1, 1), [2, 1, 0], "012", (1, 2, 3)]:
            for weight in (1, 0, True, None):
                self.fails(NoRanking, {"ranking": ranking}, add_taster, T, ranking, weight)
                self.fails(NoRanking, {"ranking": ranking}, add_taster, full_table(), ranking, weight)

    def test_no_weight(self):
        odd = [value for value in odd_values() if not (type(value) is int and value in (1, 5))]
        for weight in [*odd, *WRONG_WEIGHTS]:
            for table in (T, U, full_table()):
                self.fails(NoWeight, {"weight": weight}, add_taster, table, (2, 0, 1), weight)

    def test_full_table(self):
        for dishes in range(1, 9):
            row = tuple(range(dishes))
            for weight in (1, 10 ** 12):
                self.fails(TooMany, {"limit": 16}, add_taster, full_table(dishes), row, weight)


class RemoveTaster(Case):

    def test_every_taster(self):
        for table in tables():
            many = len(table[1])
            for taster in range(many if many > 1 else 0):
                rest = tuple(row for at, row in enumerate(table[1]) if at != taster)
                self.same(self.call(remove_taster, table, taster), (table[0], rest))

    def test_no_taster(self):
        one = (3, T[1][:1])
        for table in (T, U, one, full_table()):
            many = len(table[1])
            wrong = [value for value in odd_values() if type(value) is not int or not 0 <= value < many]
            for taster in [*wrong, many, many + 1, -many]:
                self.fails(NoTaster, {"taster": taster}, remove_taster, table, taster)

    def test_the_only_taster(self):
        for dishes in range(1, 9):
            self.fails(LastOne, {}, remove_taster, (dishes, ((tuple(range(dishes)), 1),)), 0)


class RemoveDish(Case):

    def test_every_dish(self):
        for table in tables():
            for dish in range(table[0] if table[0] > 1 else 0):
                tasters = tuple((without(row, dish), weight) for row, weight in table[1])
                self.same(self.call(remove_dish, table, dish), (table[0] - 1, tasters))

    def test_no_dish(self):
        for dishes in range(1, 9):
            table = (dishes, ((tuple(range(dishes)), 1), (tuple(range(dishes))[::-1], 2)))
            wrong = [value for value in odd_values() if type(value) is not int or not 0 <= value < dishes]
            for dish in [*wrong, dishes, dishes + 1, -dishes]:
                self.fails(NoDish, {"dish": dish}, remove_dish, table, dish)

    def test_the_only_dish(self):
        for many in (1, 2, 16):
            self.fails(LastOne, {}, remove_dish, (1, (((0,), 1),) * many), 0)


class Restrict(Case):

    def test_every_menu(self):
        for table in [*small_tables()[::5], *[table for table, rankings in large_tables()[::4]]]:
            menus = chain.from_iterable(combinations(range(table[0]), size) for size in range(1, table[0] + 1))
            for menu in menus:
                tasters = []
                for row, weight in table[1]:
                    for dish in sorted(set(range(table[0])) - set(menu), reverse=True):
                        row = without(row, dish)
                    tasters.append((row, weight))
                self.same(self.call(restrict, table, menu), (len(menu), tuple(tasters)))

    def test_all_dishes(self):
        for table in tables():
            self.same(self.call(restrict, table, tuple(range(table[0]))), table)

    def test_tuples_of_numbers_that_are_no_menus(self):
        for size in range(4):
            for menu in product(range(-1, 4), repeat=size):
                if not menu or menu not in combinations(range(3), size):
                    self.fails(NoMenu, {}, restrict, T, menu)

    def test_other_values(self):
        for menu in [*odd_values(), *spoiled((0, 1)), *spoiled((0, 1, 2)), (False, 1), (0, True), (0, 2, LONG)]:
            if repr(menu) != "(0,)":
                self.fails(NoMenu, {}, restrict, T, menu)
                self.fails(NoMenu, {}, restrict, (1, (((0,), 1),)), menu)
