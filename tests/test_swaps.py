"""Points 48 to 51: swaps of neighbours."""

import random
from itertools import combinations, product

from helper import (
    LONG, Case, gap, neighbours, odd_values, random_rankings, rankings, resized, shortest_paths, spoiled, swap_steps,
)
from tasterow.errors import TooMany
from tasterow.swaps import count_shortest_paths, is_shortest_path, swap_path


def some_pairs():
    """Pairs of rankings of one to eight dishes: all small ones, and some greater ones."""
    found = [pair for dishes in range(1, 5) for pair in product(rankings(dishes), repeat=2)]
    source = random.Random(9)
    for dishes in range(5, 9):
        row = tuple(range(dishes))
        found += [(row, row), (row, row[::-1]), (row[::-1], row)]
        found += [tuple(random_rankings(source, dishes, 2)) for attempt in range(20)]
    return found


class SwapPath(Case):

    def test_the_rule_of_each_step(self):
        for one, other in some_pairs():
            path = self.call(swap_path, one, other)
            self.same(path, swap_steps(one, other))
            self.assertEqual(len(path), gap(one, other) + 1)

    def test_equal_rankings(self):
        for dishes in range(1, 9):
            row = tuple(range(dishes))
            self.same(self.call(swap_path, row, row), (row,))

    def test_a_path_of_each_pair_is_shortest(self):
        for one, other in some_pairs():
            self.same(self.call(is_shortest_path, one, other, swap_path(one, other)), True)


class IsShortestPath(Case):

    def test_every_tuple_of_rankings_of_three_dishes(self):
        rows = rankings(3)
        for one, other in product(rows[:2], rows):
            good = shortest_paths(one, other)
            for length in range(5):
                for value in product(rows, repeat=length):
                    self.same(is_shortest_path(one, other, value), value in good)

    def test_all_shortest_paths_of_four_dishes(self):
        rows = rankings(4)
        for one, other in product(rows[::5], rows):
            for path in shortest_paths(one, other):
                self.same(is_shortest_path(one, other, path), True)
                back = path[::-1]
                self.same(is_shortest_path(one, other, back), one == other)
                self.same(is_shortest_path(other, one, back), True)

    def test_longer_paths(self):
        for one, other in some_pairs()[::3]:
            path = swap_path(one, other)
            for row in neighbours(one)[:3]:
                self.same(self.call(is_shortest_path, one, other, (one, row, *path)), False)
            for row in neighbours(other)[:3]:
                self.same(self.call(is_shortest_path, one, other, (*path, row, other)), False)
            self.same(self.call(is_shortest_path, one, other, (*path, other)), False)

    def test_one_ranking_changed(self):
        for one, other in some_pairs()[1::6]:
            path = swap_path(one, other)
            for at in range(len(path)):
                for row in [*neighbours(path[at]), path[at][::-1]]:
                    value = (*path[:at], row, *path[at + 1:])
                    steps = all(gap(*step) == 1 for step in zip(value, value[1:]))
                    expected = steps and value[0] == one and value[-1] == other
                    self.same(self.call(is_shortest_path, one, other, value), expected)

    def test_steps_of_more_than_one_swap(self):
        # One step exchanges two pairs at once, another one nothing.
        one, other = (0, 1, 2, 3), (1, 0, 3, 2)
        self.same(self.call(is_shortest_path, one, other, (one, other, other)), False)
        self.same(self.call(is_shortest_path, one, other, (one, one, other)), False)
        self.same(self.call(is_shortest_path, one, other, (one, (1, 0, 2, 3), other)), True)
        # An exchange of two entries that are not neighbours is no swap.
        far = ((0, 1, 2), (2, 1, 0))
        self.same(self.call(is_shortest_path, *far, far), False)

    def test_other_ends(self):
        path = swap_path((0, 1, 2), (2, 1, 0))
        self.same(self.call(is_shortest_path, (0, 1, 2), (2, 0, 1), path[:3]), False)
        self.same(self.call(is_shortest_path, (0, 2, 1), (2, 1, 0), path[1:]), False)
        self.same(self.call(is_shortest_path, (0, 1, 2), (2, 1, 0), path[1:]), False)
        self.same(self.call(is_shortest_path, (0, 1, 2), (2, 1, 0), path[:-1]), False)

    def test_one_part_of_another_kind(self):
        for one, other in (((0, 1), (1, 0)), ((0, 1, 2), (2, 1, 0)), ((0,), (0,)), ((1, 0, 2), (1, 0, 2))):
            path = swap_path(one, other)
            for value in spoiled(path) + resized(path):
                with self.subTest(value=value):
                    self.same(self.call(is_shortest_path, one, other, value), False)

    def test_any_value(self):
        for one, other in (((0,), (0,)), ((0, 1), (1, 0)), ((0, 1), (0, 1)), ((0, 1, 2), (2, 1, 0))):
            for value in odd_values():
                with self.subTest(one=one, other=other, value=value):
                    expected = one == (0,) and repr(value) == "((0,),)"
                    self.same(self.call(is_shortest_path, one, other, value), expected)
                    self.same(self.call(is_shortest_path, one, other, (one, value)), False)
                    self.same(self.call(is_shortest_path, one, other, (value, other)), False)
                    self.same(self.call(is_shortest_path, one, other, (one, value, other)), False)

    def test_rankings_of_another_length(self):
        self.same(self.call(is_shortest_path, (0, 1), (1, 0), ((0, 1, 2), (1, 0, 2))), False)
        self.same(self.call(is_shortest_path, (0, 1), (1, 0), ((0, 1), (1, 0), (LONG,))), False)


class CountShortestPaths(Case):

    def test_against_a_search(self):
        for dishes in range(1, 5):
            for one, other in product(rankings(dishes)[::dishes], rankings(dishes)):
                self.same(self.call(count_shortest_paths, one, other), len(shortest_paths(one, other)))

    def test_five_dishes_against_a_search(self):
        for one, other in combinations(rankings(5)[::17], 2):
            self.same(self.call(count_shortest_paths, one, other), len(shortest_paths(one, other)))

    def test_a_ranking_and_its_reverse(self):
        # The numbers of ways to sort by swaps of neighbours are known.
        for dishes, number in ((1, 1), (2, 1), (3, 2), (4, 16), (5, 768), (6, 292864)):
            row = tuple(range(dishes))
            self.same(self.call(count_shortest_paths, row, row[::-1]), number)
            self.same(self.call(count_shortest_paths, row[::-1], row), number)
        self.same(self.call(count_shortest_paths, (3, 1, 5, 0, 2, 4), (4, 2, 0, 5, 1, 3)), 292864)

    def test_independent_swaps_in_any_order(self):
        self.same(self.call(count_shortest_paths, (0, 1, 2, 3, 4, 5), (1, 0, 3, 2, 5, 4)), 6)

    def test_equal_rankings(self):
        for dishes in range(1, 7):
            row = tuple(range(dishes))[::-1]
            self.same(self.call(count_shortest_paths, row, row), 1)

    def test_too_many_dishes(self):
        for dishes in (7, 8):
            row = tuple(range(dishes))
            for other in (row, row[::-1], row[1:] + row[:1]):
                self.fails(TooMany, {"limit": 6}, count_shortest_paths, row, other)
                self.fails(TooMany, {"limit": 6}, count_shortest_paths, other, row)
