"""Points 25 to 30, and 3 (a): obstructions and certificates."""

from itertools import chain, combinations, permutations, product

from helper import (
    FOUR, LONG, T, U, Case, first_by_chain, is_seatable, large_tables, large_unseatable_tables, obstructs, odd_values,
    resized, right_form, seatings, small_tables, spoiled, unseatable_tables, weigh,
)
from tasterow.obstructions import (
    certificate, first_seating, is_certificate, is_obstruction, minimal_conflicts,
)

QUADRUPLE = ("quadruple", (0, 1, 2, 3), ((0, 1), (2, 3)))


def possible(table):
    """All values of the form of an obstruction of a table of that size."""
    pairs = list(combinations(range(table[0]), 2))
    tasters = range(len(table[1]))
    return chain(
        product(["triple"], combinations(tasters, 3), product(pairs, repeat=3)),
        product(["quadruple"], combinations(tasters, 4), combinations(pairs, 2)),
    )


def obstructions(table):
    return [value for value in possible(table) if obstructs(table, value)]


class IsObstruction(Case):

    def check(self, table, value, expected):
        with self.subTest(table=table, value=value):
            self.same(self.call(is_obstruction, table, value), expected)

    def test_every_value_of_the_form(self):
        seen = {True: 0, False: 0}
        for table in small_tables():
            if table[0] < 4 and len(table[1]) < 6:
                for value in possible(table):
                    expected = obstructs(table, value)
                    seen[expected] += 1
                    self.same(is_obstruction(table, value), expected)
        self.assertGreater(min(seen.values()), 100)

    def test_quadruples_of_four_dishes(self):
        tables = [table for table in small_tables() if table[0] == 4]
        for table in tables[::3]:
            for tasters in combinations(range(len(table[1])), 4):
                for pairs in product(product(range(4), repeat=2), repeat=2):
                    value = ("quadruple", tasters, pairs)
                    expected = right_form(table, value) and obstructs(table, value)
                    self.same(is_obstruction(table, value), expected)

    def test_every_order_of_tasters_and_pairs(self):
        for table in (U, FOUR, weigh(3, [(0, 1, 2), (1, 2, 0), (2, 0, 1), (0, 1, 2)])):
            for word, tasters, pairs in obstructions(table):
                for changed in product(range(-1, len(table[1]) + 1), repeat=len(tasters)):
                    value = (word, changed, pairs)
                    expected = right_form(table, value) and obstructs(table, value)
                    self.same(is_obstruction(table, value), expected)
                for changed in permutations(pairs):
                    value = (word, tasters, changed)
                    expected = right_form(table, value) and obstructs(table, value)
                    self.same(is_obstruction(table, value), expected)

    def test_pairs_of_a_triple_need_not_ascend(self):
        self.check(U, ("triple", (1, 2, 3), ((0, 2), (1, 2), (0, 1))), True)
        self.check(U, ("triple", (1, 2, 3), ((0, 1), (0, 2), (1, 2))), False)

    def test_a_triple_may_repeat_no_pair(self):
        for table in unseatable_tables()[::11]:
            for pair in combinations(range(table[0]), 2):
                self.check(table, ("triple", (0, 1, 2), (pair, pair, pair)), False)

    def test_pairs_of_a_quadruple_ascend(self):
        self.check(FOUR, QUADRUPLE, True)
        self.check(FOUR, ("quadruple", (0, 1, 2, 3), ((2, 3), (0, 1))), False)
        self.check(FOUR, ("quadruple", (0, 1, 2, 3), ((0, 1), (0, 1))), False)
        self.check(FOUR, ("quadruple", (0, 1, 2, 3), ((0, 1), (0, 2))), False)

    def test_pairs_the_wrong_way_round(self):
        self.check(FOUR, ("quadruple", (0, 1, 2, 3), ((1, 0), (2, 3))), False)
        self.check(FOUR, ("quadruple", (0, 1, 2, 3), ((0, 1), (3, 2))), False)
        self.check(U, ("triple", (1, 2, 3), ((2, 0), (1, 2), (0, 1))), False)
        self.check(U, ("triple", (1, 2, 3), ((0, 2), (2, 1), (0, 1))), False)
        self.check(U, ("triple", (1, 2, 3), ((0, 2), (1, 2), (1, 0))), False)

    def test_numbers_beyond_the_table(self):
        for wrong in (-1, 4, 5, LONG, -LONG):
            for at in range(4):
                tasters = tuple(sorted([*range(at), wrong, *range(at + 1, 4)]))
                self.check(FOUR, ("quadruple", tasters, ((0, 1), (2, 3))), False)
            self.check(FOUR, ("quadruple", (0, 1, 2, 3), ((0, 1), (2, wrong))), False)
            self.check(FOUR, ("quadruple", (0, 1, 2, 3), ((wrong, 1), (2, 3))), False)

    def test_one_part_changed(self):
        for table in (U, FOUR, weigh(3, [(0, 1, 2), (1, 2, 0), (2, 0, 1)])):
            found = obstructions(table)
            self.assertTrue(found)
            for value in found[:20]:
                self.check(table, value, True)
                for changed in spoiled(value) + resized(value):
                    self.check(table, changed, False)

    def test_the_other_word(self):
        for table in (U, FOUR):
            for word, tasters, pairs in obstructions(table):
                for other in ("triple", "quadruple", "seating", "obstruction", "Triple", "", 3, 4):
                    if other != word:
                        self.check(table, (other, tasters, pairs), False)

    def test_truth_values(self):
        self.check(FOUR, ("quadruple", (False, 1, 2, 3), ((0, 1), (2, 3))), False)
        self.check(FOUR, ("quadruple", (0, True, 2, 3), ((0, 1), (2, 3))), False)
        self.check(FOUR, ("quadruple", (0, 1, 2, 3), ((False, 1), (2, 3))), False)
        self.check(FOUR, ("quadruple", (0, 1, 2, 3), ((0, True), (2, 3))), False)
        self.check(U, ("triple", (True, 2, 3), ((0, 2), (1, 2), (0, 1))), False)
        self.check(U, ("triple", (1, 2, 3), ((0, 2), (True, 2), (0, 1))), False)

    def test_obstructions_of_other_tables(self):
        self.check(T, ("triple", (1, 2, 3), ((0, 2), (1, 2), (0, 1))), False)
        self.check(U, QUADRUPLE, False)
        self.check((1, (((0,), 1),)), QUADRUPLE, False)

    def test_any_value(self):
        for table in (T, U, FOUR):
            for value in odd_values():
                self.check(table, value, False)
                self.check(table, (value, (0, 1, 2, 3), ((0, 1), (1, 2))), False)
                self.check(table, ("quadruple", value, ((0, 1), (1, 2))), False)
                self.check(table, ("triple", value, ((0, 2), (1, 2), (0, 1))), False)
                self.check(table, ("triple", (1, 2, 3), value), False)
                self.check(table, ("triple", (1, 2, 3), ((0, 2), value, (0, 1))), False)
            self.check(FOUR, ("quadruple", (0, 1, 2, 3), ((0, 1), (1, 2))), False)


class Certificates(Case):

    def test_either_a_seating_or_an_obstruction(self):
        for table in small_tables():
            found = self.call(certificate, table)
            if seatings(table):
                first = seatings(table)[0]
                self.same(found, ("seating", first))
                self.same(self.call(first_seating, table), first)
            else:
                self.is_obstruction_of(table, found)
                self.same(is_obstruction(table, found), True)
                self.not_seatable(table, first_seating, table)
            self.same(self.call(is_certificate, table, found), True)

    def test_seatable_tables_have_no_obstruction(self):
        for table in small_tables()[::4]:
            found = any(obstructs(table, value) for value in possible(table))
            self.assertEqual(found, not seatings(table))

    def test_large_tables_with_a_seating(self):
        for table, rankings in large_tables():
            expected = first_by_chain(table, rankings)
            self.same(self.call(first_seating, table), expected)
            self.same(self.call(certificate, table), ("seating", expected))
            self.same(self.call(is_certificate, table, ("seating", expected)), True)
            self.same(self.call(is_certificate, table, ("seating", expected[::-1])), True)

    def test_large_tables_without_a_seating(self):
        tables = large_unseatable_tables()
        self.assertGreater(len(tables), 9)
        for table in tables:
            found = self.call(certificate, table)
            self.is_obstruction_of(table, found)
            self.same(is_certificate(table, found), True)
            self.not_seatable(table, first_seating, table)

    def test_only_a_quadruple(self):
        self.same(certificate(FOUR), QUADRUPLE)
        # Eleven more tasters of the same group, so that the quadruple comes late.
        rows = [(0, 1, 2, 3)] * 12 + [ranking for ranking, weight in FOUR[1][1:]]
        self.is_obstruction_of(weigh(4, rows), certificate(weigh(4, rows)))

    def test_one_group(self):
        for dishes, many in product((1, 2, 8), (1, 2, 16)):
            table = weigh(dishes, [tuple(range(dishes))[::-1]] * many)
            self.same(self.call(first_seating, table), tuple(range(many)))


class IsCertificate(Case):

    def test_every_order(self):
        for table in small_tables()[::3]:
            expected = set(seatings(table))
            for order in permutations(range(len(table[1]))):
                self.same(is_certificate(table, ("seating", order)), order in expected)

    def test_every_obstruction(self):
        for table in small_tables()[::8]:
            if table[0] < 4:
                for value in possible(table):
                    self.same(is_certificate(table, value), obstructs(table, value))

    def test_neither(self):
        for table in (T, U, FOUR, weigh(2, [(0, 1)] * 2)):
            good = [("seating", order) for order in seatings(table)] + obstructions(table)[:9]
            for value in good:
                self.same(self.call(is_certificate, table, value), True)
                for changed in spoiled(value) + resized(value):
                    with self.subTest(table=table, value=changed):
                        self.same(self.call(is_certificate, table, changed), False)

    def test_other_words(self):
        for word in ("triple", "quadruple", "Seating", "", "position", None, 0, True, ("seating",)):
            self.same(self.call(is_certificate, T, (word, (0, 2, 1))), False)

    def test_any_value(self):
        one = weigh(1, [(0,)])
        for table in (T, U, FOUR, one):
            for value in odd_values():
                with self.subTest(table=table, value=value):
                    self.same(self.call(is_certificate, table, value), False)
                    expected = table == one and repr(value) == "(0,)"
                    self.same(self.call(is_certificate, table, ("seating", value)), expected)
                    self.same(self.call(is_certificate, table, (value, (0,))), False)

    def test_certificates_of_other_tables(self):
        self.same(is_certificate(U, ("seating", (0, 2, 1))), False)
        self.same(is_certificate(T, ("seating", (0, 2, 1, 3))), False)
        self.same(is_certificate(T, ("triple", (1, 2, 3), ((0, 2), (1, 2), (0, 1)))), False)


class MinimalConflicts(Case):

    def check(self, table):
        tasters = range(len(table[1]))
        sets = chain.from_iterable(combinations(tasters, size) for size in range(1, len(tasters) + 1))
        seatable = {row: is_seatable(table, row) for row in sets}
        seatable[()] = True
        expected = [
            row for row in seatable
            if not seatable[row] and all(seatable[tuple(t for t in row if t != one)] for one in row)
        ]
        self.same(self.call(minimal_conflicts, table), tuple(sorted(expected)))
        return expected

    def test_against_all_sets_of_tasters(self):
        sizes = {len(row) for table in small_tables() for row in self.check(table)}
        self.assertEqual(sizes, {3, 4})

    def test_three_and_four_tasters_in_one_table(self):
        rows = [ranking for ranking, weight in FOUR[1]]
        found = self.check(weigh(4, rows + [(3, 2, 1, 0), (2, 3, 0, 1)]))
        self.assertEqual({len(row) for row in found}, {3, 4})

    def test_conflicts_of_four(self):
        self.same(self.call(minimal_conflicts, FOUR), ((0, 1, 2, 3),))

    def test_large_tables(self):
        for table, rankings in large_tables():
            self.same(self.call(minimal_conflicts, table), ())
        for table in large_unseatable_tables()[:4]:
            found = self.call(minimal_conflicts, table)
            self.assertEqual(list(found), sorted(set(found)))
            expected = [row for row in combinations(range(len(table[1])), 3) if not is_seatable(table, row)]
            self.assertEqual([row for row in found if len(row) == 3], expected)
            known = set(expected)
            fours = [
                row for row in combinations(range(len(table[1])), 4)
                if not known & set(combinations(row, 3)) and not is_seatable(table, row)
            ]
            self.assertEqual([row for row in found if len(row) != 3], fours)
