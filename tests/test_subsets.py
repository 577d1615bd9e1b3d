"""Points 63 to 66, and 3 (g): the heaviest seatable subset."""

import random
import time
from itertools import chain, combinations

from helper import (
    FOUR, LONG, T, U, Case, is_seatable, large_tables, large_unseatable_tables, odd_values, random_chain,
    random_rankings, resized, seatings, sides, small_tables, spoiled, weigh,
)
from tasterow.subsets import heaviest_subset, is_level_certificate, level_certificate

ONE = (1, (((0,), 5),))
HEAVY = 10 ** 12
CYCLE = (3, (((0, 1, 2), 3), ((1, 2, 0), 4), ((2, 0, 1), 5), ((0, 1, 2), 2)))


def subsets(table):
    tasters = range(len(table[1]))
    return chain.from_iterable(combinations(tasters, size) for size in range(1, len(tasters) + 1))


def weight_of(table, tasters):
    return sum(table[1][taster][1] for taster in tasters)


def heaviest_by_search(table):
    """The greatest weight, by a search through all sets that contain no conflict of three or four."""
    size = len(table[1])
    conflicts = [
        set(row) for many in (3, 4) for row in combinations(range(size), many) if not is_seatable(table, row)
    ]
    ending = [[row - {taster} for row in conflicts if max(row) == taster] for taster in range(size)]
    kept = [()]
    for taster in range(size):
        kept += [(*row, taster) for row in kept if not any(rest <= set(row) for rest in ending[taster])]
    return max(weight_of(table, row) for row in kept)


def group_list(table):
    """Triples (side bits, weight, tasters) of all groups, by their first tasters."""
    found = {}
    for taster, mark in enumerate(sides(table)):
        found.setdefault(mark, []).append(taster)
    return [(mark, weight_of(table, tasters), tasters) for mark, tasters in found.items()]


def steps(table):
    """All (e, j, k) of different groups j and k such that j is between e and k, by the definition."""
    marks = [mark for mark, weight, tasters in group_list(table)]
    numbers = range(len(marks))
    return [
        (e, j, k) for e in numbers for j in numbers for k in numbers
        if j != k and not ~(marks[e] ^ marks[k]) & (marks[e] ^ marks[j])
    ]


def lowest_levels(table):
    """The least levels, raised until all rules hold."""
    weights = [weight for mark, weight, tasters in group_list(table)]
    levels = [list(weights) for weight in weights]
    rules = steps(table)
    raised = True
    while raised:
        raised = False
        for e, j, k in rules:
            if levels[e][k] < levels[e][j] + weights[k]:
                levels[e][k] = levels[e][j] + weights[k]
                raised = True
    return tuple(tuple(row) for row in levels)


def keeps_rules(table, value, seatable=is_seatable):
    """Whether a value of integers in tuples is a level certificate, rule by rule."""
    weight, tasters, levels = value
    weights = [heavy for mark, heavy, members in group_list(table)]
    return (
        len(tasters) > 0
        and tasters in combinations(range(len(table[1])), len(tasters))
        and seatable(table, tasters)
        and weight_of(table, tasters) == weight
        and len(levels) == len(weights)
        and all(len(row) == len(weights) for row in levels)
        and all(level <= weight for row in levels for level in row)
        and all(level >= heavy for row in levels for level, heavy in zip(row, weights))
        and all(levels[e][k] >= levels[e][j] + weights[k] for e, j, k in steps(table))
    )


def mixed_tables():
    """Tables of up to eight dishes and sixteen tasters, with and without a seating."""
    source = random.Random(11)
    found = [*large_unseatable_tables()[:4]]
    for dishes, many, other in ((8, 8, 8), (8, 10, 6), (6, 9, 7), (4, 8, 8), (3, 8, 8), (5, 6, 6)):
        rows = source.choices(random_chain(source, dishes), k=many) + random_rankings(source, dishes, other)
        source.shuffle(rows)
        found.append((dishes, tuple((row, source.randint(1, HEAVY)) for row in rows)))
        found.append((dishes, tuple((row, source.choice([1, 2, HEAVY - 1, HEAVY])) for row in rows)))
    return found


def bumped(value, steps=(-1, 1)):
    """The certificate with one of its numbers changed."""
    weight, tasters, levels = value
    for step in steps:
        yield (weight + step, tasters, levels)
        for at, taster in enumerate(tasters):
            yield (weight, (*tasters[:at], taster + step, *tasters[at + 1:]), levels)
        for e, row in enumerate(levels):
            for k, level in enumerate(row):
                other = (*row[:k], level + step, *row[k + 1:])
                yield (weight, tasters, (*levels[:e], other, *levels[e + 1:]))


class HeaviestSubset(Case):

    def check(self, table, weight):
        found = self.call(heaviest_subset, table)
        self.assertEqual(type(found), tuple)
        self.assertEqual(len(found), 2)
        self.same(found[0], weight)
        self.same(found[1], tuple(sorted(set(found[1]))))
        self.assertTrue(found[1])
        self.assertLess(found[1][-1], len(table[1]))
        self.assertEqual(weight_of(table, found[1]), weight)
        self.assertNotIn("True", repr(found))
        self.assertNotIn("False", repr(found))
        conflicts = [row for many in (3, 4) for row in combinations(found[1], many) if not is_seatable(table, row)]
        self.assertEqual(conflicts, [])

    def test_all_sets_of_tasters(self):
        for table in small_tables():
            kept = [tasters for tasters in subsets(table) if is_seatable(table, tasters)]
            self.check(table, max(weight_of(table, tasters) for tasters in kept))
            self.assertTrue(is_seatable(table, heaviest_subset(table)[1]))

    def test_seatable_tables_are_kept_whole(self):
        for table, rows in large_tables():
            everybody = tuple(range(len(table[1])))
            self.same(self.call(heaviest_subset, table), (weight_of(table, everybody), everybody))

    def test_many_tasters(self):
        for table in mixed_tables():
            self.check(table, heaviest_by_search(table))

    def test_great_weights(self):
        # One person more or less decides.
        table = (3, (((0, 1, 2), HEAVY), ((1, 2, 0), HEAVY - 1), ((2, 0, 1), HEAVY)))
        self.same(self.call(heaviest_subset, table), (2 * HEAVY, (0, 2)))
        table = (8, tuple((tuple(range(8)), HEAVY) for taster in range(16)))
        self.same(self.call(heaviest_subset, table), (16 * HEAVY, tuple(range(16))))

    def test_groups_stay_together(self):
        self.same(self.call(heaviest_subset, CYCLE), (10, (0, 2, 3)))

    def test_one_taster(self):
        self.same(self.call(heaviest_subset, ONE), (5, (0,)))

    def test_short_time(self):
        tables = [table for table in mixed_tables() if len(table[1]) == 16]
        start = time.perf_counter()
        for table in tables:
            self.assertTrue(is_level_certificate(table, level_certificate(table)))
        self.assertLess(time.perf_counter() - start, len(tables))


class LevelCertificate(Case):

    def check(self, table):
        found = self.call(level_certificate, table)
        weight, tasters, levels = found
        self.same(levels, lowest_levels(table))
        self.same(weight, max(level for row in levels for level in row))
        self.assertTrue(keeps_rules(table, found, lambda *given: True))
        self.assertEqual([row for row in combinations(tasters, 3) if not is_seatable(table, row)], [])
        self.assertEqual([row for row in combinations(tasters, 4) if not is_seatable(table, row)], [])
        self.same(weight, heaviest_subset(table)[0])
        self.same(self.call(is_level_certificate, table, found), True)

    def test_small_tables(self):
        for table in small_tables():
            self.check(table)

    def test_large_tables(self):
        for table in [*mixed_tables(), *[table for table, rows in large_tables()[::2]]]:
            self.check(table)

    def test_one_group(self):
        self.same(self.call(level_certificate, ONE), (5, (0,), ((5,),)))
        table = (2, (((1, 0), 3), ((1, 0), 4)))
        self.same(self.call(level_certificate, table), (7, (0, 1), ((7,),)))

    def test_a_cycle(self):
        self.same(self.call(level_certificate, CYCLE), (10, (0, 2, 3), ((5, 9, 10), (9, 4, 9), (10, 9, 5))))


class IsLevelCertificate(Case):

    def check(self, table, value, expected):
        with self.subTest(table=table, value=value):
            self.same(self.call(is_level_certificate, table, value), expected)

    def tables(self):
        return [T, U, FOUR, ONE, CYCLE, *small_tables()[::29]]

    def test_one_number_changed(self):
        seen = {True: 0, False: 0}
        for table in self.tables():
            for value in bumped(level_certificate(table), (-1, 1, 2, LONG, -LONG)):
                expected = keeps_rules(table, value)
                seen[expected] += 1
                self.check(table, value, expected)
        self.assertGreater(min(seen.values()), 20)

    def test_levels_above_the_lowest(self):
        source = random.Random(12)
        seen = {True: 0, False: 0}
        for table in self.tables() + [table for table in mixed_tables() if table[0] == 3]:
            weight, tasters, levels = level_certificate(table)
            for attempt in range(12):
                rows = [[source.choice([level, level, level + 1, weight]) for level in row] for row in levels]
                value = (weight, tasters, tuple(tuple(row) for row in rows))
                expected = keeps_rules(table, value, lambda *given: True)
                seen[expected] += 1
                self.same(is_level_certificate(table, value), expected)
        self.assertGreater(min(seen.values()), 20)

    def test_every_set_of_tasters(self):
        for table in self.tables():
            weight, tasters, levels = level_certificate(table)
            for other in subsets(table):
                for heavy in {weight, weight_of(table, other)}:
                    value = (heavy, other, levels)
                    self.check(table, value, keeps_rules(table, value))

    def test_every_level_at_the_weight(self):
        # A greatest level does not exceed the weight, but it has to be greater than those before it.
        for table in self.tables():
            weight, tasters, levels = level_certificate(table)
            value = (weight, tasters, tuple(tuple(weight for level in row) for row in levels))
            self.check(table, value, len(levels) == 1 and keeps_rules(table, value))

    def test_several_heaviest_sets(self):
        table = (3, (((0, 1, 2), 1), ((1, 2, 0), 1), ((2, 0, 1), 1)))
        levels = level_certificate(table)[2]
        for tasters in ((0, 1), (0, 2), (1, 2)):
            self.check(table, (2, tasters, levels), True)
        for tasters in ((1, 0), (0, 0), (0,), (0, 1, 2), (), (2, 1), (-1, 0), (1, 3)):
            self.check(table, (2, tasters, levels), False)

    def test_nobody_is_kept(self):
        for table in self.tables():
            weight, tasters, levels = level_certificate(table)
            zeros = tuple(tuple(0 for level in row) for row in levels)
            for value in ((0, (), levels), (weight, (), levels), (0, (), zeros), (0, (), ()), (0, tasters, zeros)):
                self.check(table, value, False)

    def test_tasters_that_are_not_seatable(self):
        # The weight is right and all levels are below it, but the four cannot sit in a row.
        levels = level_certificate(U)[2]
        self.check(U, (5, (0, 1, 2, 3), levels), False)
        self.check(CYCLE, (14, (0, 1, 2, 3), level_certificate(CYCLE)[2]), False)

    def test_a_set_that_is_not_heaviest(self):
        for table in (U, FOUR, CYCLE):
            weight, tasters, levels = level_certificate(table)
            for other in subsets(table):
                if weight_of(table, other) < weight:
                    self.check(table, (weight_of(table, other), other, levels), False)

    def test_one_part_of_another_kind(self):
        for table in (T, ONE, CYCLE, (2, (((0, 1), 1), ((1, 0), 1)))):
            good = level_certificate(table)
            for value in spoiled(good) + resized(good):
                self.check(table, value, False)
            self.check(table, list(good), False)
            self.check(table, (good[0], list(good[1]), good[2]), False)
            self.check(table, (good[0], good[1], list(good[2])), False)
            self.check(table, (good[0], good[1], tuple(list(row) for row in good[2])), False)

    def test_truth_values(self):
        table = (1, (((0,), 1),))
        self.check(table, (1, (0,), ((1,),)), True)
        self.check(table, (True, (0,), ((1,),)), False)
        self.check(table, (1, (False,), ((1,),)), False)
        self.check(table, (1, (0,), ((True,),)), False)
        self.check(T, (4, (0, True, 2), ((1, 4, 3), (4, 1, 3), (3, 3, 2))), False)
        self.check(T, (4, (0, 1, 2), ((True, 4, 3), (4, 1, 3), (3, 3, 2))), False)

    def test_any_value(self):
        for table in (T, U, ONE):
            good = level_certificate(table)
            for value in odd_values():
                self.check(table, value, False)
                number = value if type(value) is int else None
                self.check(table, (value, good[1], good[2]), number == good[0])
                self.check(table, (good[0], value, good[2]), table == ONE and repr(value) == "(0,)")
                self.check(table, (good[0], good[1], value), False)
                self.check(table, (good[0], good[1], (value, *good[2][1:])), False)
                self.check(table, (good[0], good[1], ((value, *good[2][0][1:]), *good[2][1:])), number == good[2][0][0])

    def test_certificates_of_other_tables(self):
        self.check(U, level_certificate(T), False)
        self.check(T, level_certificate(U), False)
        self.assertTrue(seatings(T))
