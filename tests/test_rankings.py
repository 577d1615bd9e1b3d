"""Points 5 to 12: rankings."""

from itertools import combinations, permutations, product
from math import factorial

from helper import LONG, Case, odd_values
from tasterow.errors import NoIndex
from tasterow.rankings import (
    differences, distance, is_between, is_ranking, ranking_at, ranking_index, reverse_ranking,
)

SIZES = range(1, 9)


def rankings(dishes):
    """All rankings of that many dishes, ascending."""
    return sorted(permutations(range(dishes)))


def differing(one, other):
    """The pairs that differ, from the sign of the two gaps between positions."""
    return tuple(
        (low, high) for low, high in combinations(range(len(one)), 2)
        if (one.index(low) - one.index(high)) * (other.index(low) - other.index(high)) < 0
    )


def swaps(one, other):
    """How many neighbours a bubble sort exchanges to turn one into other."""
    row = [other.index(dish) for dish in one]
    count = 0
    for end in range(len(row), 1, -1):
        for at in range(end - 1):
            if row[at] > row[at + 1]:
                row[at], row[at + 1] = row[at + 1], row[at]
                count += 1
    return count


class IsRanking(Case):

    def test_every_ranking_up_to_six_dishes(self):
        for dishes in range(1, 7):
            for ranking in rankings(dishes):
                self.same(is_ranking(dishes, ranking), True)

    def test_some_rankings_of_each_size(self):
        for dishes in SIZES:
            row = tuple(range(dishes))
            for ranking in (row, row[::-1], row[1:] + row[:1], row[1::2] + row[::2]):
                self.same(self.call(is_ranking, dishes, ranking), True)

    def test_only_the_length_asked_for(self):
        for dishes, other in product(SIZES, range(12)):
            with self.subTest(dishes=dishes, other=other):
                self.same(self.call(is_ranking, dishes, tuple(range(other))), dishes == other)

    def test_numbers_of_dishes_beyond_the_limits(self):
        # Point 5 knows rankings of 1 to MAX_DISHES dishes only.
        for dishes in (-1, 0, 9, 10):
            for value in (tuple(range(max(dishes, 0))), (), (0,)):
                self.same(self.call(is_ranking, dishes, value), False)

    def test_every_tuple_of_three_numbers(self):
        for value in product(range(-2, 5), repeat=3):
            self.same(is_ranking(3, value), value in set(rankings(3)))

    def test_one_entry_replaced(self):
        for dishes in SIZES:
            for at in range(dishes):
                row = list(range(dishes))
                wrong = [-1, dishes, LONG, -LONG, None, "0", str(at), (at,), [at], {at: at}, row]
                wrong += [other for other in row if other != at]
                for entry in wrong:
                    value = (*row[:at], entry, *row[at + 1:])
                    with self.subTest(value=value):
                        self.same(self.call(is_ranking, dishes, value), False)

    def test_truth_values_are_no_dishes(self):
        for value in ((False,), (0, True), (False, 1), (False, True), (True, 0), (2, True, 0), (0, 1, True)):
            with self.subTest(value=value):
                self.same(self.call(is_ranking, len(value), value), False)

    def test_other_kinds_of_values(self):
        for dishes in SIZES:
            row = list(range(dishes))
            texts = "".join([str(dish) for dish in row])
            for value in (row, texts, {dish: dish for dish in row}, (row,), [tuple(row)], (tuple(row),), [row]):
                with self.subTest(value=value):
                    self.same(self.call(is_ranking, dishes, value), False)

    def test_any_value(self):
        for dishes in SIZES:
            for value in odd_values():
                with self.subTest(dishes=dishes, value=value):
                    self.same(self.call(is_ranking, dishes, value), dishes == 1 and repr(value) == "(0,)")


class Indexes(Case):

    def test_against_the_ascending_list(self):
        for dishes in range(1, 6):
            for index, ranking in enumerate(rankings(dishes)):
                self.same(self.call(ranking_index, ranking), index)
                self.same(self.call(ranking_at, dishes, index), ranking)

    def test_inverses_up_to_eight_dishes(self):
        for dishes in range(6, 9):
            previous = ()
            for index in range(factorial(dishes)):
                ranking = ranking_at(dishes, index)
                self.assertLess(previous, ranking)
                self.assertEqual(ranking_index(ranking), index)
                previous = ranking

    def test_first_and_last(self):
        for dishes in SIZES:
            row, last = tuple(range(dishes)), factorial(dishes) - 1
            self.same(self.call(ranking_at, dishes, 0), row)
            self.same(self.call(ranking_at, dishes, last), row[::-1])
            self.same(self.call(ranking_index, row), 0)
            self.same(self.call(ranking_index, row[::-1]), last)

    def test_integers_that_are_no_index(self):
        for dishes in SIZES:
            number = factorial(dishes)
            for index in (-1, -number, number, number + 1, 10 * number, LONG, -LONG):
                with self.subTest(dishes=dishes, index=index):
                    self.fails(NoIndex, {"index": index}, ranking_at, dishes, index)

    def test_values_that_are_no_index(self):
        for dishes in SIZES:
            for index in odd_values():
                if type(index) is not int:
                    with self.subTest(dishes=dishes, index=index):
                        self.fails(NoIndex, {"index": index}, ranking_at, dishes, index)


class Differences(Case):

    def check(self, one, other):
        expected = differing(one, other)
        self.same(self.call(differences, one, other), expected)
        self.same(self.call(differences, other, one), expected)
        self.same(self.call(distance, one, other), swaps(one, other))
        self.same(self.call(distance, other, one), len(expected))

    def test_every_two_rankings_up_to_four_dishes(self):
        for dishes in range(1, 5):
            for one, other in product(rankings(dishes), repeat=2):
                self.check(one, other)

    def test_unrelated_rankings_up_to_eight_dishes(self):
        for dishes in range(5, 9):
            some = rankings(dishes)[::factorial(dishes) // 14 - 1]
            for one, other in product(some, repeat=2):
                self.check(one, other)

    def test_pairs_are_ascending(self):
        for dishes in SIZES:
            for one in rankings(dishes)[::factorial(dishes) // 20 + 1]:
                found = differences(one, tuple(range(dishes)))
                self.assertEqual(list(found), sorted(set(found)))
                self.assertTrue(all([low < high for low, high in found]))

    def test_equal_rankings(self):
        for dishes in SIZES:
            for ranking in rankings(dishes)[::factorial(dishes) // 20 + 1]:
                self.same(self.call(differences, ranking, ranking), ())
                self.same(self.call(distance, ranking, ranking), 0)

    def test_one_dish(self):
        self.same(self.call(differences, (0,), (0,)), ())
        self.same(self.call(distance, (0,), (0,)), 0)
        self.same(self.call(reverse_ranking, (0,)), (0,))


class Reverse(Case):

    def test_the_last_dish_becomes_the_first(self):
        for dishes in range(1, 6):
            for ranking in rankings(dishes):
                back = self.call(reverse_ranking, ranking)
                self.same(back, tuple(reversed(ranking)))
                self.same(reverse_ranking(back), ranking)

    def test_a_ranking_and_its_reverse_differ_on_every_pair(self):
        for dishes in SIZES:
            pairs = tuple(combinations(range(dishes), 2))
            for ranking in rankings(dishes)[::factorial(dishes) // 20 + 1]:
                back = reverse_ranking(ranking)
                self.same(differences(ranking, back), pairs)
                self.same(distance(ranking, back), len(pairs))


class IsBetween(Case):

    def check(self, one, other, third):
        # Distances add up through a ranking just if it is between.
        expected = swaps(one, third) + swaps(third, other) == swaps(one, other)
        self.same(is_between(one, other, third), expected)

    def test_every_three_rankings_up_to_three_dishes(self):
        for dishes in range(1, 4):
            for three in product(rankings(dishes), repeat=3):
                self.check(*three)

    def test_rankings_of_four_dishes(self):
        for three in product(rankings(4)[::3], rankings(4)[::2], rankings(4)):
            self.check(*three)

    def test_the_two_rankings_themselves(self):
        for dishes in SIZES:
            some = rankings(dishes)[::factorial(dishes) // 9 + 1]
            for one, other in product(some, repeat=2):
                self.same(self.call(is_between, one, other, one), True)
                self.same(self.call(is_between, one, other, other), True)

    def test_nothing_else_is_between_equal_rankings(self):
        for dishes in SIZES:
            some = rankings(dishes)[::factorial(dishes) // 9 + 1]
            for one, third in product(some, repeat=2):
                self.same(self.call(is_between, one, one, third), one == third)

    def test_everything_is_between_reversed_rankings(self):
        for dishes in SIZES:
            some = rankings(dishes)[::factorial(dishes) // 9 + 1]
            for one, third in product(some, repeat=2):
                self.same(self.call(is_between, one, one[::-1], third), True)

    def test_eight_dishes(self):
        row = (0, 1, 2, 3, 4, 5, 6, 7)
        other = (1, 0, 3, 2, 5, 4, 7, 6)
        self.same(self.call(is_between, row, other, (1, 0, 2, 3, 5, 4, 6, 7)), True)
        self.same(self.call(is_between, row, other, (1, 2, 0, 3, 5, 4, 6, 7)), False)
        self.same(self.call(is_between, row, other, (0, 1, 2, 3, 4, 6, 5, 7)), False)
