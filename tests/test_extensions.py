"""Points 57 to 62, and 3 (f): adding a ranking."""

import random
from itertools import combinations, permutations, product

from helper import (
    FOUR, LONG, T, U, Case, first_by_chain, large_tables, large_unseatable_tables, obstructs, odd_values,
    random_rankings, rankings, resized, right_form, seatable_tables, seatings, sides, sits, spoiled,
    unseatable_tables, weigh,
)
from tasterow.errors import NoRanking, TooMany
from tasterow.extensions import (
    add_certificate, addable_rankings, can_add, insert_positions, is_add_certificate,
)

ONE = (1, (((0,), 5),))
NEW = (0, 2, 1)
PROOF = ("obstruction", ("quadruple", (0, 1, 2, 3), ((0, 1), (1, 2))))


def extended(table, ranking):
    return (table[0], (*table[1], (ranking, 1)))


def positions(table, seating, ranking):
    """All indexes at which the new taster can be inserted, by the definition."""
    marks = sides(extended(table, ranking))
    row = [marks[taster] for taster in seating]
    return tuple(at for at in range(len(row) + 1) if sits([*row[:at], marks[-1], *row[at:]]))


def small_cases():
    """Triples (table, first seating, ranking) with at most five tasters."""
    found = []
    for table in seatable_tables():
        if len(table[1]) < 6:
            rows = rankings(table[0]) if table[0] < 5 else rankings(table[0])[::len(rankings(table[0])) // 20]
            rows += [ranking for ranking, weight in table[1]]
            found += [(table, seatings(table)[0], ranking) for ranking in rows]
    return found


def large_cases():
    """The same with up to sixteen tasters: rankings of the table, between, beyond and unrelated."""
    source = random.Random(10)
    found = []
    for table, rows in large_tables():
        seating = first_by_chain(table, rows)
        known = [ranking for ranking, weight in table[1]]
        tried = [*known[:3], *rows[::4], rows[0][::-1], *random_rankings(source, table[0], 4)]
        found += [(table, seating, ranking) for ranking in tried]
    return found


def wrong_rankings():
    """Values that are no rankings of three dishes."""
    tuples = [value for size in range(5) for value in product(range(-1, 4), repeat=size)]
    found = [value for value in tuples if sorted(value) != [0, 1, 2]]
    found = [*found[::7], *odd_values(), *spoiled((0, 1, 2))]
    return [*found, (0, 1, True), (False, 1, 2), [0, 1, 2], "0>1>2", (0, 1, LONG)]


class CanAdd(Case):

    def test_small_tables(self):
        seen = {True: 0, False: 0}
        for table, seating, ranking in small_cases()[::3]:
            expected = bool(seatings(extended(table, ranking)))
            seen[expected] += 1
            self.same(self.call(can_add, table, ranking), expected)
        self.assertGreater(min(seen.values()), 100)

    def test_seventeen_tasters(self):
        seen = {True: 0, False: 0}
        for table, seating, ranking in large_cases():
            expected = bool(positions(table, seating, ranking))
            seen[expected] += len(table[1]) == 16
            self.same(self.call(can_add, table, ranking), expected)
        self.assertGreater(min(seen.values()), 10)

    def test_rankings_of_the_table_can_be_added(self):
        for table in seatable_tables():
            for ranking, weight in table[1]:
                self.same(can_add(table, ranking), True)

    def test_a_ranking_can_be_added_unless_an_obstruction_contains_it(self):
        for table, seating, ranking in small_cases()[::7]:
            if table[0] == 3:
                wide = extended(table, ranking)
                new = len(table[1])
                found = [
                    ("triple", (*tasters, new), pairs)
                    for tasters in combinations(range(new), 2)
                    for pairs in product(combinations(range(3), 2), repeat=3)
                ] + [
                    ("quadruple", (*tasters, new), pairs)
                    for tasters in combinations(range(new), 3)
                    for pairs in combinations(combinations(range(3), 2), 2)
                ]
                self.same(can_add(table, ranking), not any(obstructs(wide, value) for value in found))


class InsertPositions(Case):

    def test_every_index_of_the_first_seating(self):
        for table, seating, ranking in small_cases():
            found = self.call(insert_positions, table, ranking)
            self.same(found, positions(table, seating, ranking))

    def test_empty_if_the_ranking_cannot_be_added(self):
        for table, seating, ranking in small_cases()[::3]:
            expected = bool(seatings(extended(table, ranking)))
            self.assertEqual(len(insert_positions(table, ranking)) > 0, expected)

    def test_seventeen_tasters(self):
        for table, seating, ranking in large_cases():
            self.same(self.call(insert_positions, table, ranking), positions(table, seating, ranking))

    def test_a_ranking_of_the_table_fits_beside_its_group(self):
        for table, seating, ranking in small_cases()[::3]:
            own = [at for at, taster in enumerate(seating) if table[1][taster][0] == ranking]
            if own:
                self.assertLessEqual({*own, own[-1] + 1}, set(insert_positions(table, ranking)))

    def test_both_ends(self):
        self.same(self.call(insert_positions, weigh(2, [(0, 1)]), (1, 0)), (0, 1))
        self.same(self.call(insert_positions, weigh(2, [(0, 1)] * 3), (1, 0)), (0, 3))
        self.same(self.call(insert_positions, weigh(2, [(0, 1)] * 3), (0, 1)), (0, 1, 2, 3))
        self.same(self.call(insert_positions, ONE, (0,)), (0, 1))


class AddCertificate(Case):

    def check(self, table, seating, ranking):
        places = positions(table, seating, ranking)
        found = self.call(add_certificate, table, ranking)
        if places:
            self.same(found, ("position", places[0]))
        else:
            self.assertEqual(len(found), 2)
            self.assertEqual(found[0], "obstruction")
            self.is_obstruction_of(extended(table, ranking), found[1])
            self.assertIn(len(table[1]), found[1][1])
        self.same(self.call(is_add_certificate, table, ranking, found), True)

    def test_small_tables(self):
        for table, seating, ranking in small_cases()[::2]:
            self.check(table, seating, ranking)

    def test_seventeen_tasters(self):
        for table, seating, ranking in large_cases():
            self.check(table, seating, ranking)

    def test_only_a_quadruple(self):
        table = weigh(4, [(0, 1, 2, 3), (1, 0, 3, 2), (1, 0, 2, 3)])
        found = self.call(add_certificate, table, (0, 1, 3, 2))
        self.same(found, ("obstruction", ("quadruple", (0, 1, 2, 3), ((0, 1), (2, 3)))))


class IsAddCertificate(Case):

    def check(self, table, ranking, value, expected):
        with self.subTest(table=table, ranking=ranking, value=value):
            self.same(self.call(is_add_certificate, table, ranking, value), expected)

    def test_every_position(self):
        for table, seating, ranking in small_cases()[::9] + large_cases()[::23]:
            places = positions(table, seating, ranking)
            for at in range(-1, len(seating) + 3):
                self.same(is_add_certificate(table, ranking, ("position", at)), at in places)
            for at in (LONG, -LONG, -len(seating)):
                self.same(is_add_certificate(table, ranking, ("position", at)), at == 0 and 0 in places)

    def test_every_obstruction(self):
        seen = {True: 0, False: 0}
        for table, seating, ranking in small_cases()[::9]:
            if table[0] == 3:
                wide = extended(table, ranking)
                tasters = range(len(wide[1]) + 1)
                pairs = list(combinations(range(3), 2))
                values = [*product(["triple"], combinations(tasters, 3), permutations(pairs))]
                values += product(["quadruple"], combinations(tasters, 4), combinations(pairs, 2))
                for value in values:
                    expected = right_form(wide, value) and obstructs(wide, value)
                    seen[expected] += 1
                    self.same(is_add_certificate(table, ranking, ("obstruction", value)), expected)
        self.assertGreater(min(seen.values()), 100)

    def test_one_part_changed(self):
        self.check(T, NEW, PROOF, True)
        for value in spoiled(PROOF) + resized(PROOF):
            self.check(T, NEW, value, False)
        for ranking in ((1, 2, 0), (0, 1, 2)):
            good = add_certificate(T, ranking)
            for value in spoiled(good) + resized(good):
                self.check(T, ranking, value, False)

    def test_truth_values(self):
        self.check(T, (1, 0, 2), ("position", 1), True)
        self.check(T, (1, 0, 2), ("position", True), False)
        self.check(T, (0, 1, 2), ("position", 0), True)
        self.check(T, (0, 1, 2), ("position", False), False)
        self.check(T, NEW, ("obstruction", ("quadruple", (False, 1, 2, 3), ((0, 1), (1, 2)))), False)
        self.check(T, NEW, ("obstruction", ("quadruple", (0, 1, 2, 3), ((0, True), (1, 2)))), False)

    def test_other_words(self):
        for word in ("triple", "seating", "Position", "", None, 0, True, ("position",), [], {}):
            self.check(T, (1, 2, 0), (word, 2), False)
            self.check(T, NEW, (word, PROOF[1]), False)
        self.check(T, NEW, PROOF[1], False)
        self.check(T, (1, 2, 0), ("obstruction", 2), False)
        self.check(T, NEW, ("position", PROOF[1]), False)

    def test_obstructions_without_the_new_taster(self):
        # The table is seatable, so every obstruction contains the new taster.
        for ranking in rankings(3):
            for pairs in product(combinations(range(3), 2), repeat=3):
                self.check(T, ranking, ("obstruction", ("triple", (0, 1, 2), pairs)), False)

    def test_any_value(self):
        for ranking in ((1, 2, 0), NEW, (1, 0, 2)):
            for value in odd_values():
                self.check(T, ranking, value, False)
                expected = ranking == (1, 0, 2) and type(value) is int and value == 1
                self.check(T, ranking, ("position", value), expected)
                self.check(T, ranking, ("obstruction", value), False)
                self.check(T, ranking, (value, 2), False)


class Exceptions(Case):

    def test_no_ranking(self):
        for ranking in wrong_rankings():
            with self.subTest(ranking=ranking):
                for function in (can_add, insert_positions, add_certificate):
                    self.fails(NoRanking, {"ranking": ranking}, function, T, ranking)
                for value in (("position", 0), None, []):
                    self.fails(NoRanking, {"ranking": ranking}, is_add_certificate, T, ranking, value)

    def test_rankings_of_other_dishes(self):
        eight = weigh(8, [tuple(range(8))])
        for table, ranking in ((T, (0, 1)), (T, (0, 1, 2, 3)), (ONE, (0, 1)), (ONE, ()), (eight, (0,))):
            self.fails(NoRanking, {"ranking": ranking}, can_add, table, ranking)
            self.fails(NoRanking, {"ranking": ranking}, insert_positions, table, ranking)

    def test_not_seatable_comes_first(self):
        for table in (U, FOUR, *unseatable_tables()[::60], large_unseatable_tables()[0]):
            for ranking in [tuple(range(table[0])), *wrong_rankings()[::9]]:
                for function in (can_add, insert_positions, add_certificate):
                    self.not_seatable(table, function, table, ranking)
                for value in (("position", 0), None):
                    self.not_seatable(table, is_add_certificate, table, ranking, value)


class AddableRankings(Case):

    def test_all_rankings(self):
        for table in seatable_tables()[::3]:
            if table[0] < 6:
                seating = seatings(table)[0]
                expected = [row for row in rankings(table[0]) if positions(table, seating, row)]
                self.same(self.call(addable_rankings, table), tuple(expected))

    def test_sixteen_tasters(self):
        for table, rows in large_tables():
            if table[0] < 6:
                seating = first_by_chain(table, rows)
                expected = [row for row in rankings(table[0]) if positions(table, seating, row)]
                self.same(self.call(addable_rankings, table), tuple(expected))

    def test_one_ranking(self):
        for dishes in range(1, 6):
            table = weigh(dishes, [tuple(range(dishes))])
            self.same(self.call(addable_rankings, table), tuple(rankings(dishes)))

    def test_too_many(self):
        for table in seatable_tables() + [table for table, rows in large_tables()]:
            if table[0] > 5:
                self.fails(TooMany, {"limit": 5}, addable_rankings, table)
        self.fails(TooMany, {"limit": 5}, addable_rankings, weigh(6, [(0, 1, 2, 3, 4, 5)]))

    def test_not_seatable_comes_first(self):
        tables = [*unseatable_tables()[::9], *large_unseatable_tables()]
        self.assertTrue([table for table in tables if table[0] > 5])
        for table in tables:
            self.not_seatable(table, addable_rankings, table)
