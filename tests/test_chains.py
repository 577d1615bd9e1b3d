"""Points 52 to 56, and 3 (c): chains."""

from itertools import combinations, product

from helper import (
    FOUR, LONG, T, U, Case, first_by_chain, gap, large_tables, large_unseatable_tables, neighbours, odd_values,
    rankings, resized, seatable_tables, seatings, shortest_paths, small_tables, spoiled, swap_steps,
    unseatable_tables, weigh,
)
from tasterow.chains import chain, full_chain, is_chain, is_full_chain

ONE = (1, (((0,), 5),))
EQUAL = weigh(3, [(1, 2, 0)] * 4)
TWO = weigh(4, [(0, 1, 2, 3), (1, 0, 3, 2)])


def tables_with_seating():
    """Pairs (table, first seating)."""
    small = [(table, seatings(table)[0]) for table in seatable_tables()]
    return small + [(table, first_by_chain(table, rows)) for table, rows in large_tables()]


def rankings_along(table, seating):
    return [table[1][taster][0] for taster in seating]


def chain_by_rule(table, seating):
    """From the ranking of each taster to that of the next one, each step at the lowest index."""
    row = rankings_along(table, seating)
    path = [row[0]]
    for ranking in row[1:]:
        path += swap_steps(path[-1], ranking)[1:]
    return tuple(path)


def tasted(table):
    return {ranking for ranking, weight in table[1]}


def is_path(value, one, other):
    """Whether a tuple of rankings is a shortest path, by the definition."""
    steps = all(after in neighbours(before) for before, after in zip(value, value[1:]))
    return len(value) == gap(one, other) + 1 and value[0] == one and value[-1] == other and steps


def chains(table, seating):
    """All chains of a seatable table, by the definition."""
    row = rankings_along(table, seating)
    paths = shortest_paths(row[0], row[-1]) + shortest_paths(row[-1], row[0])
    return {path for path in paths if tasted(table) <= set(path)}


def changed(path):
    """Paths with a ranking left out, repeated, reversed or replaced, and with detours."""
    found = []
    for at, ranking in enumerate(path):
        before, after = path[:at], path[at + 1:]
        found += [before + after, (*before, ranking, ranking, *after), (*before, ranking[::-1], *after)]
        found += [(*before, other, *after) for other in neighbours(ranking)]
        found += [(*before, ranking, other, ranking, *after) for other in neighbours(ranking)]
    return found


class Chain(Case):

    def test_from_group_to_group(self):
        for table, seating in tables_with_seating():
            found = self.call(chain, table)
            self.same(found, chain_by_rule(table, seating))
            row = rankings_along(table, seating)
            self.assertEqual(len(found), gap(row[0], row[-1]) + 1)
            self.assertLessEqual(tasted(table), set(found))

    def test_distances_add_up(self):
        for table, seating in tables_with_seating():
            path = chain(table)
            for (at, one), (to, other) in combinations(enumerate(path), 2):
                self.assertEqual(gap(one, other), to - at)

    def test_one_ranking(self):
        for dishes in range(1, 9):
            ranking = tuple(range(dishes))[::-1]
            for many in (1, 2, 16):
                self.same(self.call(chain, weigh(dishes, [ranking] * many)), (ranking,))

    def test_two_rankings(self):
        for one, other in product(rankings(4)[::5], rankings(4)):
            self.same(chain(weigh(4, [one, other])), swap_steps(one, other))
            self.same(chain(weigh(4, [one, one, other, other])), swap_steps(one, other))

    def test_the_first_taster_of_the_first_seating_begins(self):
        rows = [(0, 1, 2), (1, 0, 2), (1, 2, 0)]
        forward = tuple(rows)
        self.same(self.call(chain, weigh(3, rows)), forward)
        self.same(self.call(chain, weigh(3, rows[::-1])), forward[::-1])
        # Taster 0 sits in the middle, and taster 1 has a lower number than taster 2.
        self.same(self.call(chain, weigh(3, [rows[1], rows[2], rows[0]])), forward[::-1])

    def test_not_seatable(self):
        for table in [*unseatable_tables()[::3], *large_unseatable_tables()]:
            self.not_seatable(table, chain, table)
            self.not_seatable(table, full_chain, table)


class IsChain(Case):

    def check(self, table, value, expected):
        with self.subTest(table=table, value=value):
            self.same(self.call(is_chain, table, value), expected)

    def test_the_returned_chain_and_its_reverse(self):
        for table, seating in tables_with_seating():
            path = chain(table)
            self.check(table, path, True)
            self.check(table, path[::-1], True)

    def test_every_tuple_of_rankings_of_three_dishes(self):
        tables = [table for table in seatable_tables() if table[0] == 3]
        for table in tables[::17]:
            expected = chains(table, seatings(table)[0])
            for length in range(5):
                for value in product(rankings(3), repeat=length):
                    self.same(is_chain(table, value), value in expected)

    def test_all_shortest_paths_between_the_ends(self):
        seen = {True: 0, False: 0}
        for table in seatable_tables():
            if table[0] < 5:
                seating = seatings(table)[0]
                row = rankings_along(table, seating)
                good = chains(table, seating)
                for path in shortest_paths(row[0], row[-1]):
                    seen[path in good] += 1
                    self.same(is_chain(table, path), path in good)
                    self.same(is_chain(table, path[::-1]), path in good)
        self.assertGreater(min(seen.values()), 100)

    def test_paths_that_skip_a_ranking(self):
        self.check(T, ((0, 1, 2), (0, 2, 1), (2, 0, 1), (2, 1, 0)), False)
        self.check(T, ((2, 1, 0), (2, 0, 1), (0, 2, 1), (0, 1, 2)), False)
        self.check(TWO, ((0, 1, 2, 3), (0, 1, 3, 2), (1, 0, 3, 2)), True)
        self.check(TWO, ((0, 1, 2, 3), (1, 0, 2, 3), (1, 0, 3, 2)), True)
        middle = weigh(4, [(0, 1, 2, 3), (1, 0, 3, 2), (0, 1, 3, 2)])
        self.check(middle, ((0, 1, 2, 3), (0, 1, 3, 2), (1, 0, 3, 2)), True)
        self.check(middle, ((0, 1, 2, 3), (1, 0, 2, 3), (1, 0, 3, 2)), False)

    def test_changed_chains(self):
        for table, seating in tables_with_seating()[::9]:
            path = chain(table)
            row = rankings_along(table, seating)
            for value in changed(path):
                expected = bool(value) and is_path(value, row[0], row[-1]) and tasted(table) <= set(value)
                self.same(self.call(is_chain, table, value), expected)

    def test_paths_beyond_the_ends(self):
        for table, seating in tables_with_seating()[::9]:
            path = chain(table)
            for other in neighbours(path[-1]):
                self.same(is_chain(table, (*path, other)), False)
                self.same(is_chain(table, (other, *path[::-1])), False)
            if table[0] > 1:
                self.same(is_chain(table, full_chain(table)), len(path) == len(full_chain(table)))

    def test_one_part_of_another_kind(self):
        for table in (T, ONE, EQUAL, TWO, weigh(2, [(0, 1), (1, 0)])):
            path = chain(table)
            for value in [*spoiled(path), *resized(path), list(path), [list(row) for row in path]]:
                self.check(table, value, False)

    def test_truth_values(self):
        self.check(weigh(2, [(0, 1), (1, 0)]), ((0, 1), (1, 0)), True)
        self.check(weigh(2, [(0, 1), (1, 0)]), ((0, True), (1, 0)), False)
        self.check(weigh(2, [(0, 1), (1, 0)]), ((0, 1), (1, False)), False)
        self.check(ONE, ((False,),), False)

    def test_any_value(self):
        for table in (T, ONE, EQUAL, TWO):
            for value in odd_values():
                self.check(table, value, table == ONE and repr(value) == "((0,),)")
                self.check(table, (*chain(table)[:-1], value), table == ONE and repr(value) == "(0,)")

    def test_not_seatable_for_every_value(self):
        for table in (U, FOUR, *unseatable_tables()[::40], large_unseatable_tables()[0]):
            ranking = table[1][0][0]
            good = [(ranking,), swap_steps(ranking, ranking[::-1])]
            for value in [*odd_values(), *good, (), LONG]:
                self.not_seatable(table, is_chain, table, value)


class FullChain(Case):

    def test_the_chain_continued(self):
        for table, seating in tables_with_seating():
            dishes = table[0]
            path = chain_by_rule(table, seating)
            found = self.call(full_chain, table)
            self.same(found, path + swap_steps(path[-1], path[0][::-1])[1:])
            self.assertEqual(len(found), dishes * (dishes - 1) // 2 + 1)
            self.assertEqual(len(set(found)), len(found))
            self.same(self.call(is_full_chain, table, found), True)
            self.same(self.call(is_full_chain, table, found[::-1]), True)

    def test_each_pair_is_swapped_once(self):
        for table, seating in tables_with_seating()[::5]:
            path = full_chain(table)
            for low, high in combinations(range(table[0]), 2):
                views = [row.index(low) < row.index(high) for row in path]
                self.assertEqual(sum(one != other for one, other in zip(views, views[1:])), 1)

    def test_one_dish(self):
        self.same(self.call(full_chain, ONE), ((0,),))


class IsFullChain(Case):

    def test_every_shortest_path_to_the_reverse(self):
        seen = {True: 0, False: 0}
        for table in small_tables():
            if table[0] < 5:
                found = 0
                for ranking in rankings(table[0]):
                    for path in shortest_paths(ranking, ranking[::-1]):
                        expected = tasted(table) <= set(path)
                        found += expected
                        seen[expected] += 1
                        self.same(is_full_chain(table, path), expected)
                # A table is seatable if and only if it has a full chain.
                self.assertEqual(found > 0, bool(seatings(table)))
        self.assertGreater(min(seen.values()), 100)

    def test_every_tuple_of_rankings_of_three_dishes(self):
        good = {path for row in rankings(3) for path in shortest_paths(row, row[::-1])}
        for table in (T, U, EQUAL, weigh(3, [(0, 1, 2), (1, 0, 2)])):
            for length in range(5):
                for value in product(rankings(3), repeat=length):
                    expected = value in good and tasted(table) <= set(value)
                    self.same(is_full_chain(table, value), expected)

    def test_five_dishes(self):
        table = weigh(5, [(0, 1, 2, 3, 4), (1, 0, 2, 4, 3), (1, 2, 0, 4, 3)])
        paths = [path for row in rankings(5)[:9] for path in shortest_paths(row, row[::-1])]
        for path in paths[::3]:
            self.same(is_full_chain(table, path), tasted(table) <= set(path))

    def test_changed_chains(self):
        for table, seating in tables_with_seating()[::9]:
            for value in changed(full_chain(table)):
                expected = bool(value) and is_path(value, value[0], value[0][::-1]) and tasted(table) <= set(value)
                self.same(self.call(is_full_chain, table, value), expected)

    def test_chains_that_are_not_full(self):
        for table, seating in tables_with_seating()[::5]:
            path = chain(table)
            self.same(is_full_chain(table, path), path[-1] == path[0][::-1])

    def test_one_part_of_another_kind(self):
        for table in (T, ONE, EQUAL, weigh(2, [(0, 1)])):
            path = full_chain(table)
            for value in [*spoiled(path), *resized(path), list(path), [list(row) for row in path]]:
                with self.subTest(table=table, value=value):
                    self.same(self.call(is_full_chain, table, value), False)

    def test_truth_values(self):
        self.same(self.call(is_full_chain, weigh(2, [(0, 1)]), ((0, 1), (1, 0))), True)
        self.same(self.call(is_full_chain, weigh(2, [(0, 1)]), ((0, True), (1, 0))), False)
        self.same(self.call(is_full_chain, weigh(2, [(0, 1)]), ((0, 1), (True, 0))), False)
        self.same(self.call(is_full_chain, weigh(2, [(0, 1)]), ((False, 1), (1, 0))), False)
        self.same(self.call(is_full_chain, ONE, ((False,),)), False)

    def test_rankings_of_other_dishes(self):
        self.same(self.call(is_full_chain, T, ((0, 1), (1, 0))), False)
        self.same(self.call(is_full_chain, T, ((0,),)), False)
        self.same(self.call(is_full_chain, weigh(2, [(0, 1)]), full_chain(T)), False)

    def test_any_value(self):
        for table in (T, U, FOUR, ONE, EQUAL, TWO):
            for value in odd_values():
                with self.subTest(table=table, value=value):
                    expected = table == ONE and repr(value) == "((0,),)"
                    self.same(self.call(is_full_chain, table, value), expected)
                    self.same(self.call(is_full_chain, table, (*swap_steps((0, 1, 2), (2, 1, 0)), value)), False)

    def test_tables_that_are_not_seatable(self):
        for table in [*unseatable_tables()[::9], *large_unseatable_tables()]:
            for ranking in [ranking for ranking, weight in table[1]]:
                path = swap_steps(ranking, ranking[::-1])
                self.same(self.call(is_full_chain, table, path), False)
