"""Point 3: the guarantees that join modules."""

import random
from itertools import combinations

from helper import (
    TOP, Case, large_tables, large_unseatable_tables, line_ranked, long_lines, random_rankings, seatable_tables,
    short_lines, small_tables,
)
from tasterow.boards import Board, GuardedBoard
from tasterow.chains import chain, full_chain, is_full_chain
from tasterow.counting import count_seatings, seating_at
from tasterow.errors import Blocked, NotSeatable, TasteError
from tasterow.extensions import add_certificate, can_add, insert_positions, is_add_certificate
from tasterow.lines import line_changes, line_ranking, line_segments
from tasterow.majorities import majority, medians, support, ties
from tasterow.menus import blocks, choices, cost
from tasterow.obstructions import certificate, first_seating, is_certificate, is_obstruction, minimal_conflicts
from tasterow.rankings import differences
from tasterow.seatings import is_seating
from tasterow.spans import line_choices, line_cost, line_insert_ranges, line_medians, line_support, line_table
from tasterow.subsets import heaviest_subset, is_level_certificate, level_certificate
from tasterow.tables import is_table
from tasterow.texts import format_obstruction, format_table, parse_obstruction, parse_table


def all_tables():
    return [*small_tables()[::3], *[table for table, rows in large_tables()], *large_unseatable_tables()]


def good_tables():
    return [*seatable_tables()[::3], *[table for table, rows in large_tables()]]


def prefers(ranking, one, other):
    return ranking.index(one) < ranking.index(other)


def menus(dishes):
    return [menu for size in range(1, dishes + 1) for menu in combinations(range(dishes), size)]


class Tables(Case):

    def test_either_a_seating_or_an_obstruction(self):
        for table in all_tables():
            found = certificate(table)
            self.assertTrue(is_certificate(table, found))
            self.assertEqual(found[0] == "seating", count_seatings(table) > 0)
            self.assertEqual(found[0] == "seating", minimal_conflicts(table) == ())
            self.assertEqual(found[0] == "seating", heaviest_subset(table)[1] == tuple(range(len(table[1]))))
            if found[0] != "seating":
                self.assertIn(len(found[1]), (3, 4))
                self.assertFalse(any(is_seating(table, row) for row in some_orders(table)))
                self.assertEqual(parse_obstruction(format_obstruction(found)), found)

    def test_a_seating_is_unique(self):
        for table in good_tables():
            first = first_seating(table)
            rows = [table[1][taster][0] for taster in first]
            number = count_seatings(table)
            for index in {0, 1 % number, number // 2, number - 1}:
                other = [table[1][taster][0] for taster in seating_at(table, index)]
                self.assertIn(other, (rows, rows[::-1]))

    def test_distances_add_up(self):
        for table in good_tables():
            rows = [table[1][taster][0] for taster in first_seating(table)]
            for low, high in list(combinations(range(len(rows)), 2))[::5]:
                steps = [differences(one, other) for one, other in zip(rows[low:high], rows[low + 1:high + 1])]
                pairs = [pair for step in steps for pair in step]
                self.assertEqual(sorted(pairs), list(differences(rows[low], rows[high])))
            path = chain(table)
            self.assertEqual(len(path), len(differences(rows[0], rows[-1])) + 1)
            self.assertTrue(is_full_chain(table, full_chain(table)))

    def test_medians_and_majority(self):
        for table in good_tables():
            rows = medians(table)
            beaten = majority(table)
            for one, other in combinations(range(table[0]), 2):
                views = {prefers(row, one, other) for row in rows}
                self.assertEqual((one, other) in beaten, views == {True})
                self.assertEqual((other, one) in beaten, views == {False})
                self.assertEqual((one, other) in ties(table), len(views) == 2)

    def test_menus_and_seatings(self):
        for table in good_tables()[::2]:
            seating = first_seating(table)
            for menu in menus(table[0])[::5]:
                chosen = choices(table, menu)
                found = [dish for dish, first, last in blocks(table, menu) for at in range(first, last + 1)]
                self.assertEqual(found, [chosen[taster] for taster in seating])
                dishes = [dish for dish, first, last in blocks(table, menu)]
                self.assertEqual(len(dishes), len(set(dishes)))

    def test_extensions_and_obstructions(self):
        source = random.Random(30)
        seen = {True: 0, False: 0}
        for table in good_tables():
            new = len(table[1])
            for ranking in random_rankings(source, table[0], 3) + [table[1][0][0], table[1][0][0][::-1]]:
                wide = (table[0], (*table[1], (ranking, 1)))
                word, proof = add_certificate(table, ranking)
                self.assertTrue(is_add_certificate(table, ranking, (word, proof)))
                self.assertEqual(word == "position", can_add(table, ranking))
                self.assertEqual(word == "position", bool(insert_positions(table, ranking)))
                self.assertEqual(word == "position", certificate(wide)[0] == "seating")
                seen[word == "position"] += 1
                if word == "obstruction":
                    self.assertTrue(is_obstruction(wide, proof))
                    self.assertIn(new, proof[1])
        self.assertGreater(min(seen.values()), 20)

    def test_subsets_and_levels(self):
        for table in all_tables():
            weight, tasters = heaviest_subset(table)
            found = level_certificate(table)
            self.assertTrue(is_level_certificate(table, found))
            self.assertEqual(found[0], weight)
            kept = (table[0], tuple(table[1][taster] for taster in tasters))
            self.assertEqual(certificate(kept)[0], "seating")
            self.assertEqual(max(level for row in found[2] for level in row), weight)

    def test_texts(self):
        for table in all_tables():
            self.same(parse_table(format_table(table)), table)


def some_orders(table):
    """A few orders of all tasters."""
    tasters = tuple(range(len(table[1])))
    return [tasters, tasters[::-1], tasters[1:] + tasters[:1], tasters[::2] + tasters[1::2]]


class Lines(Case):

    def places(self, line, low, high, source):
        """At most sixteen places of a span, those around its changes among them."""
        near = {t + step for t, pair in line_changes(line, low, high) for step in (-1, 0)}
        near = source.sample(sorted(near | {low, high}), min(12, len(near | {low, high})))
        return tuple(sorted({*near, *[source.randint(low, high) for attempt in range(4)]}))

    def test_a_line_is_a_seating(self):
        source = random.Random(31)
        for line in short_lines() + long_lines():
            for low, high in ((0, 40), (0, TOP)):
                places = self.places(line, low, high, source)
                table = line_table(line, places)
                self.assertTrue(is_table(table))
                self.assertTrue(is_seating(table, tuple(range(len(places)))))
                self.same(tuple(ranking for ranking, weight in table[1]), tuple(line_ranking(line, t) for t in places))

    def test_a_short_span_is_a_table(self):
        for line in short_lines():
            for low, high in ((0, 0), (0, 15), (3, 12), (TOP - 15, TOP)):
                table = line_table(line, tuple(range(low, high + 1)))
                self.same(line_medians(line, low, high), medians(table))
                for one, other in combinations(range(len(line)), 2):
                    self.same(line_support(line, low, high, one, other), support(table, one, other))
                for menu in menus(len(line))[::6]:
                    self.same(line_cost(line, low, high, menu), cost(table, menu))
                    parts = line_choices(line, low, high, menu)
                    found = [dish for dish, first, last in parts for t in range(first, last + 1)]
                    self.same(tuple(found), choices(table, menu))

    def test_insert_ranges_and_positions(self):
        source = random.Random(32)
        for line in short_lines():
            for low, high in ((0, 15), (4, 4), (3, 12)):
                table = line_table(line, tuple(range(low, high + 1)))
                row = tuple(range(len(table[1])))
                ends = [line_ranked(line, low), line_ranked(line, high)]
                for ranking in random_rankings(source, len(line), 3) + ends:
                    wide = (table[0], (*table[1], (ranking, 1)))
                    fits = [at for at in range(len(row) + 1) if is_seating(wide, (*row[:at], len(row), *row[at:]))]
                    found = line_insert_ranges(line, low, high, ranking)
                    self.assertEqual([t - low for first, last in found for t in range(first, last + 1)], fits)
                    self.assertEqual(bool(found), can_add(table, ranking))

    def test_long_spans_as_weighted_tables(self):
        for line in long_lines():
            for low, high in ((0, TOP), (TOP // 3, TOP // 2)):
                segments = line_segments(line, low, high)
                if len(segments) <= 16 and all(last - first < TOP for first, last, ranking in segments):
                    table = (len(line), tuple((ranking, last - first + 1) for first, last, ranking in segments))
                    self.assertTrue(is_table(table))
                    self.same(line_medians(line, low, high), medians(table))
                    for one, other in combinations(range(len(line)), 2):
                        self.same(line_support(line, low, high, one, other), support(table, one, other))
                    for menu in menus(len(line))[::9]:
                        self.same(line_cost(line, low, high, menu), cost(table, menu))


class Boards(Case):

    def test_undoing_restores_and_guarding_keeps(self):
        source = random.Random(33)
        for attempt in range(12):
            dishes = source.randint(2, 5)
            board, other = GuardedBoard(dishes), Board(dishes)
            shots = [board.clone()]
            for name in "abcdefghijkl":
                ranking = tuple(source.sample(range(dishes), dishes))
                addable = len(board) == 0 or can_add(board.table(), ranking)
                try:
                    board.add(name, ranking, 1)
                    self.assertTrue(addable)
                    shots.append(board.clone())
                except Blocked as error:
                    self.assertFalse(addable)
                    other = Board(dishes)
                    for known in board.names():
                        other.add(known, board.ranking_of(known), 1)
                    other.add(name, ranking, 1)
                    self.assertFalse(other.is_seatable())
                    self.assertTrue(is_obstruction(other.table(), error.obstruction))
                    self.assertRaises(NotSeatable, other.seating)
                self.assertTrue(board.is_seatable())
            while len(board):
                self.assertTrue(board == shots[len(board)])
                for at, shot in enumerate(shots[:len(board) + 1]):
                    self.same(board.names(at=at), shot.names())
                board.undo()
            self.assertTrue(board == GuardedBoard(dishes))

    def test_a_failed_operation_leaves_the_board_as_it_was(self):
        board = GuardedBoard(3)
        board.add("a", (0, 1, 2), 1)
        before = board.clone()
        for action in (
            lambda: board.add("a", (0, 1, 2), 1), lambda: board.add("b", None, 1), lambda: board.discard([]),
            lambda: board.drop_dish(True), lambda: board.apply_all([("discard", "a"), ("discard", "a")]),
            lambda: board.apply_all(None), lambda: board.table(at=9), lambda: board.ranking_of("x"),
        ):
            self.assertRaises(TasteError, action)
            self.assertTrue(board == before)
            self.same(len(board), 1)
