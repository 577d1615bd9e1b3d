"""Points 41 to 47, and 3 (e): menus."""

from itertools import chain, combinations, permutations, product

from helper import (
    FOUR, LONG, T, U, Case, large_tables, odd_values, resized, seatings, small_tables, spoiled, weigh,
)
from tasterow.errors import NoCuts, NoMenu, NoSeating, NoSize
from tasterow.menus import best_menu, block_cost, blocks, choices, cost, is_menu

EQUAL = weigh(2, [(0, 1)] * 3)
ONE = (1, (((0,), 5),))


def tables():
    return [*small_tables()[::3], *[table for table, rankings in large_tables()[::4]]]


def menus(dishes):
    return list(chain.from_iterable(combinations(range(dishes), size) for size in range(1, dishes + 1)))


def chosen(ranking, menu):
    return next(dish for dish in ranking if dish in menu)


def menu_cost(table, menu):
    return sum(weight * ranking.index(chosen(ranking, menu)) for ranking, weight in table[1])


def wrong_menus():
    """Values that are no menus of three dishes, and none of one dish."""
    tuples = [value for size in range(4) for value in product(range(-1, 4), repeat=size)]
    found = [value for value in tuples if value not in menus(3)]
    found += [value for value in odd_values() if repr(value) != "(0,)"]
    return found + spoiled((0, 1)) + [(False, 1), (0, True), (True,), (0, 1, 2, 3), (0, LONG), [0, 1], {0: 1}]


class Menus(Case):

    def test_every_menu(self):
        for dishes in range(1, 9):
            table = weigh(dishes, [tuple(range(dishes))])
            for menu in menus(8):
                self.same(self.call(is_menu, table, menu), menu[-1] < dishes)

    def test_tuples_of_numbers(self):
        for size in range(5):
            for value in product(range(-1, 4), repeat=size):
                self.same(is_menu(T, value), value in menus(3))

    def test_other_values(self):
        for value in wrong_menus():
            with self.subTest(value=value):
                self.same(self.call(is_menu, T, value), False)
                self.same(self.call(is_menu, ONE, value), False)

    def test_choices(self):
        for table in tables():
            for menu in menus(table[0]):
                expected = tuple(chosen(ranking, menu) for ranking, weight in table[1])
                self.same(self.call(choices, table, menu), expected)

    def test_cost(self):
        for table in tables():
            for menu in menus(table[0]):
                self.same(self.call(cost, table, menu), menu_cost(table, menu))
        heavy = (2, (((0, 1), 10 ** 12), ((1, 0), 10 ** 12), ((0, 1), 10 ** 12)))
        self.same(self.call(cost, heavy, (1,)), 2 * 10 ** 12)
        self.same(self.call(cost, heavy, (0, 1)), 0)

    def test_no_menu(self):
        for table in (T, U, ONE):
            for menu in wrong_menus():
                with self.subTest(table=table, menu=menu):
                    self.fails(NoMenu, {}, choices, table, menu)
                    self.fails(NoMenu, {}, cost, table, menu)


class Blocks(Case):

    def check(self, table, seating):
        for menu in menus(table[0]):
            row = [chosen(table[1][taster][0], menu) for taster in seating]
            expected = []
            for dish in sorted(set(row), key=row.index):
                places = [at for at, other in enumerate(row) if other == dish]
                # All who choose the dish sit next to one another.
                self.assertEqual(places, list(range(places[0], places[-1] + 1)))
                expected.append((dish, places[0], places[-1]))
            self.same(self.call(blocks, table, menu), tuple(expected))

    def test_small_tables(self):
        for table in small_tables()[::2]:
            if seatings(table):
                self.check(table, seatings(table)[0])

    def test_large_tables(self):
        for table, rankings in large_tables()[::3]:
            places = [rankings.index(ranking) for ranking, weight in table[1]]
            tasters = range(len(places))
            along = sorted(tasters, key=lambda taster: (places[taster], taster))
            back = sorted(tasters, key=lambda taster: (-places[taster], taster))
            self.check(table, min(along, back))

    def test_no_menu(self):
        for table in (T, ONE, EQUAL):
            for menu in [*wrong_menus(), (3,)]:
                if table != EQUAL or menu not in menus(2):
                    self.fails(NoMenu, {}, blocks, table, menu)

    def test_not_seatable_comes_first(self):
        for table in (U, FOUR, *[table for table in small_tables() if not seatings(table)][::20]):
            for menu in [(0,), (0, 1), *wrong_menus()[::6]]:
                self.not_seatable(table, blocks, table, menu)


class BestMenu(Case):

    def test_against_all_menus(self):
        for table in [*small_tables(), *[table for table, rankings in large_tables()]]:
            for size in range(1, table[0] + 1):
                expected = min(combinations(range(table[0]), size), key=lambda menu: (menu_cost(table, menu), menu))
                self.same(self.call(best_menu, table, size), expected)

    def test_the_smallest_of_several(self):
        for dishes in range(2, 9):
            row = tuple(range(dishes))
            table = (dishes, ((row, 1), (row[::-1], 1)))
            self.same(self.call(best_menu, table, 1), (0,))
            self.same(self.call(best_menu, table, 2), (0, dishes - 1))
        three = (3, tuple((row, 1) for row in permutations(range(3))))
        self.same(self.call(best_menu, three, 1), (0,))
        self.same(self.call(best_menu, three, 2), (0, 1))

    def test_all_dishes(self):
        for dishes in range(1, 9):
            table = weigh(dishes, [tuple(range(dishes))[::-1]])
            self.same(self.call(best_menu, table, dishes), tuple(range(dishes)))

    def test_no_size(self):
        for dishes in range(1, 9):
            table = weigh(dishes, [tuple(range(dishes))])
            for size in (0, -1, -dishes, dishes + 1, dishes + 2, 9, LONG, -LONG):
                self.fails(NoSize, {"size": size}, best_menu, table, size)
            for size in odd_values():
                if type(size) is not int:
                    with self.subTest(dishes=dishes, size=size):
                        self.fails(NoSize, {"size": size}, best_menu, table, size)


def all_cuts(many):
    return list(chain.from_iterable(combinations(range(1, many), size) for size in range(many)))


def parts_of(seating, cuts):
    ends = [0, *cuts, len(seating)]
    return [seating[start:end] for start, end in zip(ends, ends[1:])]


def cost_by_blocks(table, seating, cuts):
    """The lowest cost over all choices of one dish for each block."""
    parts = parts_of(seating, cuts)
    costs = []
    for dishes in product(range(table[0]), repeat=len(parts)):
        costs.append(sum(
            table[1][taster][1] * table[1][taster][0].index(dish)
            for part, dish in zip(parts, dishes) for taster in part
        ))
    return min(costs)


class BlockCost(Case):

    def test_every_seating_and_all_cuts(self):
        for table in small_tables()[::4]:
            if table[0] < 5 and len(table[1]) < 6:
                for seating in seatings(table)[:7] + seatings(table)[-2:]:
                    for cuts in all_cuts(len(seating)):
                        expected = cost_by_blocks(table, seating, cuts)
                        self.same(self.call(block_cost, table, seating, cuts), expected)

    def test_no_cuts(self):
        for table in small_tables()[::4]:
            if seatings(table):
                lowest = min(menu_cost(table, (dish,)) for dish in range(table[0]))
                for seating in seatings(table):
                    self.same(block_cost(table, seating, ()), lowest)

    def test_every_cut(self):
        for table, rankings in large_tables()[::5]:
            seating = sorted(range(len(table[1])), key=lambda taster: rankings.index(table[1][taster][0]))
            cuts = tuple(range(1, len(seating)))
            self.same(self.call(block_cost, table, tuple(seating), cuts), 0)
            self.same(self.call(block_cost, table, tuple(seating[::-1]), cuts), 0)

    def test_the_best_menu_of_a_size(self):
        for table in small_tables()[::2]:
            if seatings(table):
                seating = seatings(table)[0]
                lowest = {}
                for cuts in all_cuts(len(seating)):
                    found = block_cost(table, seating, cuts)
                    lowest[len(cuts)] = min(found, lowest.get(len(cuts), found))
                for size in range(1, table[0] + 1):
                    expected = min(lowest[many] for many in lowest if many < size)
                    self.same(cost(table, best_menu(table, size)), expected)

    def test_tuples_of_numbers_that_are_no_cuts(self):
        for size in range(4):
            for cuts in product(range(-1, 4), repeat=size):
                if cuts not in all_cuts(3):
                    self.fails(NoCuts, {}, block_cost, T, (0, 2, 1), cuts)

    def test_other_values_that_are_no_cuts(self):
        for cuts in [*odd_values(), *spoiled((1, 2)), *spoiled((1,)), [1], [1, 2], (True,), (True, 2), (1, LONG)]:
            if cuts != () or not isinstance(cuts, tuple):
                with self.subTest(cuts=cuts):
                    self.fails(NoCuts, {}, block_cost, T, (0, 2, 1), cuts)
                    self.fails(NoCuts, {}, block_cost, ONE, (0,), cuts)

    def test_one_taster_cannot_be_cut(self):
        self.same(self.call(block_cost, ONE, (0,), ()), 0)
        for cuts in ((0,), (1,), (0, 1)):
            self.fails(NoCuts, {}, block_cost, ONE, (0,), cuts)

    def test_no_seating_comes_before_no_cuts(self):
        wrong = [*odd_values(), *spoiled((0, 2, 1)), *resized((0, 2, 1)), (0, 1, 2), (2, 0, 1), (False, 2, 1)]
        for seating in wrong:
            for cuts in ((), (1,), (3,), None, [1], True, "1"):
                with self.subTest(seating=seating, cuts=cuts):
                    self.fails(NoSeating, {}, block_cost, T, seating, cuts)

    def test_not_seatable_comes_first(self):
        for table in (U, FOUR, *[table for table in small_tables() if not seatings(table)][::20]):
            for seating in ((0, 1, 2, 3), (0, 2, 1), None, [0], True, "0", {}):
                for cuts in ((), (1,), (9,), None):
                    self.not_seatable(table, block_cost, table, seating, cuts)
