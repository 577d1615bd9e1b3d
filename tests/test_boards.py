"""Points 79 to 96, and 3 (i): boards."""

import copy
import random
from itertools import product

from helper import LONG, Case, large_tables, odd_values, random_chain, rankings, spoiled
from model import BoardCase, Model, conflicts, view, whole
from tasterow.boards import Board, GuardedBoard

CLASSES = (Board, GuardedBoard)
HEAVY = 10 ** 12
NAMES = tuple("abcdefghijklmnop")
WRONG_NAMES = [
    "", "A", "aB", "abcdefghi", "a" * 5000, "a1", "1", "a b", " a", "a ", "a\n", "\n", "a_", "a-b", "{", "`", "z{",
    *[value for value in odd_values() if not isinstance(value, str)], ("a",), ["a"], {"a": "a"}, b"a",
]


def board_of(kind, dishes=3, limit=60):
    """A board without tasters, and its model."""
    return kind(dishes, limit=limit), Model(dishes, limit, kind is GuardedBoard)


def rankings_between(dishes, many):
    """That many rankings of one chain."""
    return random.Random(21).choices(random_chain(random.Random(22), dishes), k=many)


def wrong_rankings():
    """Values that are no rankings of three dishes, and none of two or four."""
    found = [(), (0,), (0, 1, 3), (0, 0, 1), (-1, 0, 1), (1, 2, 3), (0, 1, True), (False, 1, 2), [0, 1, 2], "0>1>2"]
    return [*found, *odd_values(), *spoiled((0, 1, 2)), (0, 1, LONG), (0, 1, 2, 3, 4)]


def wrong_weights():
    return [0, -1, HEAVY + 1, LONG, -LONG, *[value for value in odd_values() if type(value) is not int], "5", (5,)]


class Creation(BoardCase):

    def test_all_dishes_and_limits(self):
        for kind, dishes, limit in product(CLASSES, range(1, 9), (0, 1, 2, 59, 60)):
            board, model = board_of(kind, dishes, limit)
            self.agrees(board, model)
        for kind in CLASSES:
            self.agrees(kind(3), Model(3))
            self.agrees(kind(dishes=3), Model(3))

    def test_bad_dishes(self):
        wrong = [0, 9, 10, -1, LONG, -LONG, *[value for value in odd_values() if type(value) is not int]]
        for kind, dishes in product(CLASSES, wrong):
            with self.subTest(kind=kind, dishes=dishes):
                self.raises("BadDishes", {"dishes": dishes}, lambda: kind(dishes))
                self.raises("BadDishes", {"dishes": dishes}, lambda: kind(dishes, limit=0))

    def test_a_guarded_board_is_a_board(self):
        self.assertEqual(GuardedBoard.__bases__, (Board,))
        self.assertIs(type(Board(3)), Board)
        self.assertIs(type(GuardedBoard(3)), GuardedBoard)

    def test_boards_are_independent(self):
        for kind in CLASSES:
            one, other = kind(3), kind(3)
            one.add("a", (0, 1, 2), 1)
            self.same((len(one), len(other), other.names(), other.log()), (1, 0, (), ()))


class Operations(BoardCase):

    def situations(self, kind):
        """Boards with nobody, with some, with all of the tasters, with one dish, and at their limits."""
        found = [board_of(kind), board_of(kind, 1), board_of(kind, 3, 0)]
        some = [("add", "a", (0, 1, 2), 5), ("add", "zz", (1, 0, 2), HEAVY)]
        full = [("add", name, (0, 1, 2), 1) for name in NAMES]
        for dishes, limit, steps in ((3, 60, some), (3, 3, some), (3, 2, some), (3, 60, full), (3, 16, full)):
            board, model = board_of(kind, dishes, limit)
            for step in steps:
                self.assertIsNone(self.does(board, model, *step))
            found.append((board, model))
        board, model = board_of(kind, 1)
        self.does(board, model, "add", "a", (0,), 3)
        return [*found, (board, model)]

    def tries(self, kind, word, choices):
        """All combinations of arguments, in every situation."""
        for number, (first, known) in enumerate(self.situations(kind)):
            for arguments in product(*choices):
                board, model = first.clone(), copy.deepcopy(known)
                with self.subTest(word=word, number=number, arguments=arguments):
                    self.does(board, model, word, *arguments)
                    self.view_agrees(board, None, *model.moments()[-1])
                    self.same((len(board), board.log()), (len(model.earlier), tuple(model.entries)))

    def test_order_of_exceptions(self):
        names = ["a", "b", "zz", "q", "A", "", None, ["a"], True]
        rows = [(0, 1, 2), (2, 1, 0), (0,), (0, 1), None, [0, 1, 2]]
        weights = [1, HEAVY, 0, HEAVY + 1, True, None, "1"]
        dishes = [0, 2, 3, -1, True, None, "0"]
        for kind in CLASSES:
            self.tries(kind, "add", [["a", "q", "A", None, ["a"]], [(0, 1, 2), (0,), None], [1, HEAVY, 0, True]])
            self.tries(kind, "discard", [names])
            self.tries(kind, "set_ranking", [names, rows])
            self.tries(kind, "set_weight", [names, weights])
            self.tries(kind, "drop_dish", [dishes])
            self.tries(kind, "undo", [])

    def prepared(self, kind, limit=60):
        board, model = board_of(kind, 3, limit)
        self.does(board, model, "add", "b", (1, 0, 2), 7)
        return board, model

    def test_wrong_names(self):
        for kind, name in product(CLASSES, WRONG_NAMES):
            board, model = self.prepared(kind)
            with self.subTest(name=name):
                self.assertEqual(self.does(board, model, "add", name, (0, 1, 2), 1)[0], "NoName")
                self.assertEqual(self.does(board, model, "discard", name)[0], "UnknownName")
                self.assertEqual(self.does(board, model, "set_ranking", name, (0, 1, 2))[0], "UnknownName")
                self.assertEqual(self.does(board, model, "set_weight", name, 1)[0], "UnknownName")
                self.agrees(board, model)

    def test_right_names(self):
        for kind in CLASSES:
            board, model = self.prepared(kind)
            for name in ("a", "z", "abcdefgh", "zzzzzzzz", "ab", "aa", "ba"):
                self.assertIsNone(self.does(board, model, "add", name, (0, 1, 2), 1))
                self.assertEqual(self.does(board, model, "add", name, (0, 1, 2), 1)[0], "NameTaken")
            self.agrees(board, model)
            self.same(board.names(), ("a", "aa", "ab", "abcdefgh", "b", "ba", "z", "zzzzzzzz"))

    def test_wrong_rankings(self):
        for kind, ranking in product(CLASSES, wrong_rankings()):
            board, model = self.prepared(kind)
            with self.subTest(ranking=ranking):
                self.assertEqual(self.does(board, model, "add", "a", ranking, 1)[0], "NoRanking")
                self.assertEqual(self.does(board, model, "add", "a", ranking, 0)[0], "NoRanking")
                self.assertEqual(self.does(board, model, "set_ranking", "b", ranking)[0], "NoRanking")
                self.agrees(board, model)

    def test_wrong_weights(self):
        for kind, weight in product(CLASSES, wrong_weights()):
            board, model = self.prepared(kind)
            with self.subTest(weight=weight):
                self.assertEqual(self.does(board, model, "add", "a", (0, 1, 2), weight)[0], "NoWeight")
                self.assertEqual(self.does(board, model, "set_weight", "b", weight)[0], "NoWeight")
                self.agrees(board, model)

    def test_right_weights(self):
        for kind, weight in product(CLASSES, (1, 2, HEAVY - 1, HEAVY)):
            board, model = self.prepared(kind)
            self.assertIsNone(self.does(board, model, "add", "a", (0, 1, 2), weight))
            self.assertIsNone(self.does(board, model, "set_weight", "b", weight))
            self.agrees(board, model)

    def test_wrong_dishes(self):
        wrong = [3, 4, -1, LONG, -LONG, *[value for value in odd_values() if type(value) is not int]]
        for kind, dish in product(CLASSES, wrong):
            board, model = self.prepared(kind)
            with self.subTest(dish=dish):
                self.assertEqual(self.does(board, model, "drop_dish", dish)[0], "NoDish")
                self.agrees(board, model)

    def test_dropping_every_dish(self):
        for kind, dishes in product(CLASSES, range(1, 9)):
            for first in range(dishes):
                board, model = board_of(kind, dishes)
                for name, ranking in zip(NAMES, rankings_between(dishes, 5)):
                    self.does(board, model, "add", name, ranking, 1)
                self.does(board, model, "drop_dish", first)
                while model.dishes > 1:
                    self.assertIsNone(self.does(board, model, "drop_dish", first % model.dishes))
                self.assertEqual(self.does(board, model, "drop_dish", 0)[0], "LastOne")
                self.assertEqual(self.does(board, model, "drop_dish", 1)[0], "NoDish")
                self.agrees(board, model)

    def test_dropping_dishes_without_tasters(self):
        board, model = board_of(Board, 3)
        for dish in (2, 0):
            self.assertIsNone(self.does(board, model, "drop_dish", dish))
        self.assertEqual(self.does(board, model, "drop_dish", 0)[0], "LastOne")
        self.does(board, model, "add", "a", (0,), 1)
        self.agrees(board, model)

    def test_sixteen_tasters(self):
        for kind in CLASSES:
            board, model = board_of(kind)
            for name in NAMES:
                self.assertIsNone(self.does(board, model, "add", name, (0, 1, 2), 1))
            self.assertEqual(self.does(board, model, "add", "q", (0, 1, 2), 1), ("TooMany", {"limit": 16}))
            self.assertEqual(self.does(board, model, "add", "q", (0, 1, 2), 0)[0], "NoWeight")
            self.assertEqual(self.does(board, model, "add", "a", (0, 1, 2), 1)[0], "NameTaken")
            self.does(board, model, "discard", "c")
            self.assertIsNone(self.does(board, model, "add", "q", (0, 1, 2), 1))
            self.agrees(board, model)

    def test_limits(self):
        for kind, limit in product(CLASSES, (0, 1, 2, 17, 60)):
            board, model = board_of(kind, 3, limit)
            if limit:
                self.does(board, model, "add", "a", (0, 1, 2), 1)
            while len(board) < limit:
                self.assertIsNone(self.does(board, model, "set_weight", "a", len(board) + 1))
            for word, *arguments in (
                ("add", "b", (0, 1, 2), 1), ("add", None, None, None), ("discard", "a"), ("discard", "x"),
                ("set_ranking", "a", None), ("set_weight", "a", 5), ("set_weight", [], {}), ("drop_dish", 9),
            ):
                expected = ("TooMany", {"limit": limit})
                self.assertEqual(self.does(board, model, word, *arguments), expected)
            self.agrees(board, model)
            if limit:
                self.assertIsNone(self.does(board, model, "undo"))
                self.assertEqual(self.does(board, model, "discard", "x")[0], "UnknownName")
                self.assertIsNone(self.does(board, model, "drop_dish", 0))
                self.assertEqual(self.does(board, model, "drop_dish", 0), ("TooMany", {"limit": limit}))
            self.agrees(board, model)


class Guarded(BoardCase):

    def test_blocked(self):
        board, model = board_of(GuardedBoard)
        for name, ranking in zip("abc", ((0, 1, 2), (2, 1, 0), (1, 0, 2))):
            self.assertIsNone(self.does(board, model, "add", name, ranking, 1))
        for ranking in rankings(3):
            board, model = board.clone(), model
            found = self.does(board, model, "add", "d", ranking, 1)
            if found is None:
                self.does(board, model, "undo")
            self.assertEqual(found is None, ranking not in ((0, 2, 1), (2, 0, 1)))

    def test_the_last_check(self):
        board, model = board_of(GuardedBoard)
        for name, ranking in zip("abc", ((0, 1, 2), (2, 1, 0), (1, 0, 2))):
            self.does(board, model, "add", name, ranking, 1)
        self.assertEqual(self.does(board, model, "add", "d", (0, 2, 1), 1)[0], "Blocked")
        self.assertEqual(self.does(board, model, "add", "a", (0, 2, 1), 1)[0], "NameTaken")
        self.assertEqual(self.does(board, model, "add", "d", (0, 2, 1), 0)[0], "NoWeight")
        self.assertEqual(self.does(board, model, "set_ranking", "x", (0, 2, 1))[0], "UnknownName")
        self.assertEqual(self.does(board, model, "set_ranking", "a", (0, 2, 1))[0], "Blocked")
        self.assertIsNone(self.does(board, model, "set_ranking", "c", (0, 2, 1)))
        self.does(board, model, "undo")
        self.does(board, model, "add", "d", (1, 2, 0), 1)
        self.assertEqual(self.does(board, model, "set_ranking", "d", (2, 0, 1))[0], "Blocked")
        self.agrees(board, model)

    def test_sixteen_come_before_blocked(self):
        board, model = board_of(GuardedBoard)
        for name, ranking in zip(NAMES, [(0, 1, 2), (2, 1, 0), (1, 0, 2)] * 6):
            self.does(board, model, "add", name, ranking, 1)
        self.assertEqual(self.does(board, model, "add", "q", (0, 2, 1), 1), ("TooMany", {"limit": 16}))
        self.assertEqual(self.does(board, model, "set_ranking", "d", (0, 2, 1))[0], "Blocked")
        self.agrees(board, model)

    def test_limit_comes_before_blocked(self):
        board, model = board_of(GuardedBoard, 3, 3)
        for name, ranking in zip("abc", [(0, 1, 2), (2, 1, 0), (1, 0, 2)]):
            self.does(board, model, "add", name, ranking, 1)
        self.assertEqual(self.does(board, model, "add", "d", (0, 2, 1), 1), ("TooMany", {"limit": 3}))

    def test_within_a_batch(self):
        board, model = board_of(GuardedBoard)
        steps = [("add", name, row, 1) for name, row in zip("abcd", ((0, 1, 2), (2, 1, 0), (1, 0, 2), (0, 2, 1)))]
        self.assertEqual(self.does_all(board, model, steps), ("Failed", {"index": 3}))
        self.assertEqual(board.log()[-1], ("add", "Blocked"))
        self.agrees(board, model)
        # In another order the third one is blocked, even if a later one makes room.
        later = [steps[1], steps[2], steps[3], ("discard", "b")]
        self.assertEqual(self.does_all(board, model, later), ("Failed", {"index": 2}))
        self.agrees(board, model)
        self.assertIsNone(self.does_all(board, model, steps[:3]))
        self.agrees(board, model)

    def test_quadruples(self):
        board, model = board_of(GuardedBoard, 4)
        rows = ((0, 1, 2, 3), (1, 0, 3, 2), (1, 0, 2, 3), (0, 1, 3, 2))
        for name, ranking in zip("abc", rows):
            self.assertIsNone(self.does(board, model, "add", name, ranking, 1))
        self.assertEqual(self.does(board, model, "add", "d", rows[3], 1)[0], "Blocked")

    def test_other_boards_are_not_blocked(self):
        board, model = board_of(Board)
        for name, ranking in zip("abcdef", rankings(3)):
            self.assertIsNone(self.does(board, model, "add", name, ranking, 1))
        self.agrees(board, model)

    def test_large_tables(self):
        source = random.Random(23)
        for table, rows in large_tables()[::4]:
            board, model = board_of(GuardedBoard, table[0])
            for name, (ranking, weight) in zip(NAMES, table[1]):
                self.assertIsNone(self.does(board, model, "add", name, ranking, weight))
            for attempt in range(3):
                ranking = tuple(source.sample(range(table[0]), table[0]))
                self.does(board, model, "set_ranking", source.choice(board.names()), ranking)
            self.agrees(board, model)
            self.same(board.is_seatable(), True)


class Undo(BoardCase):

    def test_more_often_than_there_are_operations(self):
        for kind, limit in product(CLASSES, (0, 3, 60)):
            board, model = board_of(kind, 3, limit)
            for step in (("add", "a", (0, 1, 2), 1), ("set_weight", "a", 9), ("drop_dish", 1), ("discard", "a")):
                self.does(board, model, *step)
            for attempt in range(len(board) + 3):
                self.does(board, model, "undo")
                self.agrees(board, model)
            self.assertEqual(board.log()[-1], ("undo", "NothingToUndo"))
            self.raises("NothingToUndo", {}, board.undo)

    def test_every_operation_is_undone(self):
        for kind in CLASSES:
            board, model = board_of(kind)
            for step in (("add", "b", (0, 1, 2), 4), ("add", "a", (1, 0, 2), 5)):
                self.does(board, model, *step)
            for step in (
                ("add", "c", (1, 2, 0), 1), ("discard", "a"), ("set_ranking", "b", (1, 0, 2)),
                ("set_weight", "a", HEAVY), ("drop_dish", 0), ("drop_dish", 2),
            ):
                before = view(board)
                self.assertIsNone(self.does(board, model, *step))
                self.assertNotEqual(view(board), before)
                self.assertIsNone(self.does(board, model, "undo"))
                self.same(view(board), before)
                self.agrees(board, model)

    def test_each_operation_of_a_batch_counts(self):
        board, model = board_of(Board)
        self.does_all(board, model, [("add", "a", (0, 1, 2), 1), ("drop_dish", 2), ("set_weight", "a", 3)])
        self.same(len(board), 3)
        for left in (2, 1, 0):
            self.does(board, model, "undo")
            self.same(len(board), left)
            self.agrees(board, model)

    def test_undo_is_not_undone(self):
        board, model = board_of(Board)
        self.does(board, model, "add", "a", (0, 1, 2), 1)
        self.does(board, model, "undo")
        self.assertEqual(self.does(board, model, "undo")[0], "NothingToUndo")
        self.agrees(board, model)


class Moments(BoardCase):

    def queries(self, board, name):
        return [
            board.dish_count, board.names, board.table, board.seating, board.is_seatable,
            lambda at: board.ranking_of(name, at=at), lambda at: board.weight_of(name, at=at),
        ]

    def test_no_moment_before_all_else(self):
        for kind in CLASSES:
            empty, model = board_of(kind)
            board, model = board_of(kind)
            for step in (("add", "a", (0, 1, 2), 4), ("add", "b", (1, 0, 2), 5)):
                self.does(board, model, *step)
            for tested, name in ((empty, "a"), (board, "a"), (board, "x"), (board, ["a"])):
                wrong = [len(tested) + 1, -1, LONG, -LONG, *[value for value in odd_values() if type(value) is not int]]
                for at, query in product(wrong, self.queries(tested, name)):
                    if at is not None:
                        before = whole(tested)
                        self.raises("NoMoment", {"at": at}, lambda: query(at=at))
                        self.assertEqual(whole(tested), before)

    def test_truth_values_are_no_moments(self):
        board, model = board_of(Board)
        self.does(board, model, "add", "a", (0, 1, 2), 4)
        for at, query in product((True, False), self.queries(board, "a")):
            self.raises("NoMoment", {"at": at}, lambda: query(at=at))

    def test_every_moment(self):
        board, model = board_of(Board, 4)
        steps = [("add", "d", (3, 1, 0, 2), 4), ("add", "a", (0, 1, 2, 3), 5), ("drop_dish", 1)]
        steps += [("set_ranking", "a", (2, 1, 0)), ("discard", "d"), ("set_weight", "a", 6), ("discard", "a")]
        for step in steps:
            self.assertIsNone(self.does(board, model, *step))
            self.agrees(board, model)
        self.same(board.names(at=2), ("a", "d"))
        self.same(board.ranking_of("d", at=1), (3, 1, 0, 2))
        self.same(board.ranking_of("d", at=3), (2, 0, 1))
        self.raises("UnknownName", {"name": "d"}, lambda: board.ranking_of("d", at=5))
        self.raises("UnknownName", {"name": "a"}, lambda: board.weight_of("a", at=1))
        self.raises("UnknownName", {"name": "a"}, lambda: board.weight_of("a"))
        self.raises("Empty", {}, lambda: board.table(at=7))
        self.raises("Empty", {}, lambda: board.seating(at=0))

    def test_moments_after_undo_are_forgotten(self):
        board, model = board_of(Board)
        self.does(board, model, "drop_dish", 0)
        self.does(board, model, "undo")
        self.raises("NoMoment", {"at": 1}, lambda: board.dish_count(at=1))
        self.does(board, model, "add", "a", (0, 1, 2), 1)
        self.same(board.dish_count(at=1), 3)
        self.agrees(board, model)

    def test_unknown_names(self):
        for kind in CLASSES:
            board, model = board_of(kind)
            self.does(board, model, "add", "b", (0, 1, 2), 4)
            for name in [*WRONG_NAMES, "a", "bb"]:
                for at in (None, 0, 1):
                    self.raises("UnknownName", {"name": name}, lambda: board.ranking_of(name, at=at))
                    self.raises("UnknownName", {"name": name}, lambda: board.weight_of(name, at=at))

    def test_queries_are_repeatable_and_not_recorded(self):
        board, model = board_of(Board)
        for name, ranking in zip("abc", ((0, 1, 2), (2, 1, 0), (1, 0, 2))):
            self.does(board, model, "add", name, ranking, 1)
        before = whole(board)
        for at in (None, 0, 1, 2, 3):
            found = [repr(query(at=at)) for query in (board.names, board.is_seatable, board.dish_count)]
            again = [repr(query(at=at)) for query in (board.names, board.is_seatable, board.dish_count)]
            self.assertEqual(found, again)
            if at != 0:
                self.same(board.seating(at=at), board.seating(at=at))
                self.same(board.table(at=at), board.table(at=at))
        self.assertEqual(whole(board), before)


class Seating(BoardCase):

    def test_names_in_the_order_of_the_first_seating(self):
        for table, rows in large_tables():
            board, model = board_of(Board, table[0])
            names = random.Random(24).sample(NAMES, len(table[1]))
            for name, (ranking, weight) in zip(names, table[1]):
                board.add(name, ranking, weight)
            # Along the chain or back, the smaller of both in the order of the names.
            place = {name: rows.index(ranking) for name, (ranking, weight) in zip(names, table[1])}
            expected = min(
                sorted(names, key=lambda name: (place[name], name)),
                sorted(names, key=lambda name: (-place[name], name)),
            )
            self.same(board.seating(), tuple(expected))
            self.same(board.is_seatable(), True)

    def test_at_every_moment(self):
        board, model = board_of(Board)
        for name, ranking in zip("abcd", ((0, 1, 2), (2, 1, 0), (1, 0, 2), (0, 2, 1))):
            self.does(board, model, "add", name, ranking, 1)
        self.does(board, model, "discard", "c")
        self.same([board.is_seatable(at=at) for at in (0, 1, 2, 3, 4, 5)], [True, True, True, True, False, True])
        self.same(board.seating(at=1), ("a",))
        self.same(board.seating(at=3), ("a", "c", "b"))
        self.same(board.seating(at=5), board.seating())
        self.same(board.seating(), ("a", "d", "b"))
        self.raises("NotSeatable", board.table(at=4), lambda: board.seating(at=4))

    def test_not_seatable(self):
        source = random.Random(25)
        seen = {True: 0, False: 0}
        for attempt in range(60):
            dishes, many = source.randint(2, 5), source.randint(3, 6)
            board, model = board_of(Board, dishes)
            for name in NAMES[:many]:
                ranking = tuple(source.sample(range(dishes), dishes))
                self.does(board, model, "add", name, ranking, 1)
            seen[model.seatable()] += 1
            self.same(board.is_seatable(), model.seatable())
            if not model.seatable():
                self.raises("NotSeatable", model.table(), board.seating)
        self.assertGreater(min(seen.values()), 5)

    def test_nobody(self):
        for kind in CLASSES:
            board = kind(3)
            self.same(board.is_seatable(), True)
            self.same(board.is_seatable(at=0), True)
            self.raises("Empty", {}, board.seating)
            self.raises("Empty", {}, board.table)


class Batches(BoardCase):

    def test_lists_and_tuples(self):
        for kind, form, many in product(CLASSES, (list, tuple), range(21)):
            board, model = board_of(kind)
            steps = [("add", "a", (0, 1, 2), 1)] + [("set_weight", "a", weight) for weight in range(1, 20)]
            self.assertIsNone(self.does_all(board, model, form(steps[:many])))
            self.same(len(board), many)
            self.agrees(board, model)

    def test_every_word(self):
        for kind in CLASSES:
            board, model = board_of(kind)
            steps = [("add", "b", (0, 1, 2), 1), ("set_ranking", "b", (1, 2, 0)), ("set_weight", "b", 4)]
            steps += [("drop_dish", 1), ("add", "a", (1, 0), 2), ("discard", "b")]
            self.assertIsNone(self.does_all(board, model, steps))
            self.agrees(board, model)

    def test_failing_anywhere(self):
        good = [("add", "a", (0, 1, 2), 1)] + [("set_weight", "a", weight) for weight in range(1, 19)]
        wrong = [
            ("add", "a", (0, 1, 2), 1), ("add", "A", (0, 1, 2), 1), ("add", "b", (0, 1), 1), ("add", "b", (0, 1, 2), 0),
            ("discard", "x"), ("set_ranking", "a", None), ("set_weight", "a", True), ("drop_dish", 3),
            ("discard", []), ("drop_dish", {}), ("add", None, None, None),
        ]
        for kind, step, index in product(CLASSES, wrong, (1, 2, 9, 18, 19)):
            board, model = board_of(kind)
            self.does(board, model, "drop_dish", 0)
            self.does(board, model, "undo")
            steps = [*good[:index], step, *good[index:]][:20]
            self.assertEqual(self.does_all(board, model, steps), ("Failed", {"index": index}))
            self.agrees(board, model)
        for kind, step in product(CLASSES, wrong[1:]):
            board, model = board_of(kind)
            self.assertEqual(self.does_all(board, model, (step, good[0])), ("Failed", {"index": 0}))
            self.agrees(board, model)

    def test_a_failed_batch_keeps_what_was_before(self):
        for kind in CLASSES:
            board, model = board_of(kind)
            for step in (("add", "a", (0, 1, 2), 1), ("add", "b", (1, 0, 2), 2), ("drop_dish", 2)):
                self.does(board, model, *step)
            steps = [("discard", "a"), ("set_ranking", "b", (0, 1)), ("drop_dish", 0), ("drop_dish", 0)]
            self.assertEqual(self.does_all(board, model, steps), ("Failed", {"index": 3}))
            reverted = [(step[0], "reverted") for step in steps[:3]]
            self.assertEqual(board.log()[-4:], (*reverted, ("drop_dish", "LastOne")))
            self.agrees(board, model)
            self.does(board, model, "undo")
            self.agrees(board, model)

    def test_the_limit_within_a_batch(self):
        for kind, limit in product(CLASSES, (0, 1, 5)):
            board, model = board_of(kind, 3, limit)
            steps = [("add", "a", (0, 1, 2), 1)] + [("set_weight", "a", weight) for weight in range(1, 9)]
            self.assertEqual(self.does_all(board, model, steps), ("Failed", {"index": limit}))
            self.assertEqual(board.log()[-1][1], "TooMany")
            self.same(len(board), 0)
            self.assertIsNone(self.does_all(board, model, steps[:limit]))
            self.assertIsNone(self.does_all(board, model, []))
            self.assertEqual(self.does_all(board, model, steps[:1]), ("Failed", {"index": 0}))
            self.agrees(board, model)

    def test_seventeen_tasters(self):
        board, model = board_of(Board)
        steps = [("add", name, (0, 1, 2), 1) for name in (*NAMES, "q")]
        self.assertEqual(self.does_all(board, model, steps), ("Failed", {"index": 16}))
        self.agrees(board, model)

    def wrong_operations(self):
        good = ("add", "a", (0, 1, 2), 1)
        found = [
            ("undo",), ("apply_all", []), ("apply_all", ()), ("log",), ("clone",), ("names",), ("Add", *good[1:]),
            ("ADD", *good[1:]), ("add ", *good[1:]), ("", "a"), ("jump", 1), ("table",), (None, "a"), (True,), (0,),
            ("add",), ("add", "a"), ("add", "a", (0, 1, 2)), ("add", "a", (0, 1, 2), 1, 1), ("discard",),
            ("discard", "a", "b"), ("set_ranking", "a"), ("set_ranking", "a", (0, 1, 2), 1), ("set_weight", "a"),
            ("set_weight", "a", 1, 1), ("drop_dish",), ("drop_dish", 0, 1), (), ("add", ("a", (0, 1, 2), 1)),
            (("add",), "a"), (["discard"], "a"), ({"discard": 1}, "a"), list(good), ["discard", "a"], "discard",
            "undo", "add", {"discard": "a"}, None, True, 0, LONG, [], {}, ((("discard", "a"),),), (b"discard", "a"),
        ]
        return found + odd_values()

    def test_no_operations(self):
        good = ("add", "a", (0, 1, 2), 1)
        wrong = [value for value in odd_values() if value not in ([], ())]
        wrong += [{0: good}, {good: 1}, {}, "add", "", good, ("discard", "a"), ("undo",), None, (good, good, None)]
        wrong += [[good] * 21, (good,) * 21, [("discard", "a")] * 100, [("add",)] * 3]
        for operation in self.wrong_operations():
            wrong += [[operation], (operation,), [good, operation], [operation, good], [("discard", "x"), operation]]
        for kind, value in product(CLASSES, wrong):
            board, model = board_of(kind)
            self.does(board, model, "add", "b", (0, 1, 2), 1)
            before = whole(board)
            with self.subTest(value=value):
                self.raises("NoOperations", {}, lambda: board.apply_all(value))
                self.assertEqual(whole(board), before)
                self.agrees(board, model)

    def test_no_operations_comes_first(self):
        full = Board(3, limit=0)
        self.raises("NoOperations", {}, lambda: full.apply_all([("undo",)]))
        self.raises("NoOperations", {}, lambda: full.apply_all([("discard", "x"), ("undo",)]))
        self.raises("NoOperations", {}, lambda: full.apply_all(None))
        self.assertIsNone(full.apply_all([]))
        self.assertIsNone(full.apply_all(()))
        self.same(full.log(), ())

    def test_operations_of_wrong_values_have_the_right_form(self):
        for value in odd_values():
            board, model = board_of(Board)
            for step in (("discard", value), ("add", value, value, value), ("set_weight", value, value)):
                self.assertEqual(self.does_all(board, model, [step]), ("Failed", {"index": 0}))
            self.agrees(board, model)


class Log(BoardCase):

    def test_at_most_the_last_hundred(self):
        board, model = board_of(Board)
        for number in range(131):
            self.does(board, model, *[("drop_dish", 0), ("undo",), ("discard", "x")][number % 3])
            self.same(board.log(), tuple(model.entries[-100:]))
        self.same(len(board.log()), 100)
        self.does_all(board, model, [("add", "a", (0, 1, 2), 1)] * 2)
        self.same(board.log()[-2:], (("add", "reverted"), ("add", "NameTaken")))
        self.agrees(board, model)

    def test_long_batches_at_the_end_of_the_log(self):
        for many in (0, 75, 79, 80, 81, 99, 100):
            board, model = board_of(Board)
            for number in range(many):
                self.does(board, model, "discard", "x")
            steps = [("add", "a", (0, 1, 2), 1)] + [("set_weight", "a", weight) for weight in range(1, 19)]
            self.assertEqual(self.does_all(board, model, [*steps, ("discard", "b")])[0], "Failed")
            self.agrees(board, model)
            self.assertIsNone(self.does_all(board, model, steps))
            self.agrees(board, model)

    def test_every_outcome(self):
        board, model = board_of(GuardedBoard, 3, 20)
        steps = [
            ("undo",), ("add", "A", 0, 0), ("add", "a", 0, 0), ("add", "a", (0, 1, 2), 0), ("add", "a", (0, 1, 2), 1),
            ("add", "a", 0, 0), ("discard", "x"), ("set_ranking", "a", 0), ("set_weight", "a", 0), ("drop_dish", 5),
            ("add", "b", (2, 1, 0), 1), ("add", "c", (1, 0, 2), 1), ("add", "d", (0, 2, 1), 1), ("drop_dish", 0),
            ("drop_dish", 0), ("drop_dish", 0),
        ]
        for step in steps:
            self.does(board, model, *step)
        while len(board) < 20:
            self.does(board, model, "set_weight", "a", 2)
        self.does(board, model, "discard", "a")
        self.agrees(board, model)
        outcomes = [outcome for word, outcome in board.log()]
        self.assertEqual(outcomes[:16], [
            "NothingToUndo", "NoName", "NoRanking", "NoWeight", "done", "NameTaken", "UnknownName", "NoRanking",
            "NoWeight", "NoDish", "done", "done", "Blocked", "done", "done", "LastOne",
        ])
        self.assertEqual(outcomes[-1], "TooMany")
        self.same(board.log()[:2], (("undo", "NothingToUndo"), ("add", "NoName")))

    def test_the_result_does_not_change_later(self):
        board = Board(3)
        board.drop_dish(0)
        before = board.log()
        board.undo()
        self.same(before, (("drop_dish", "done"),))


class Clones(BoardCase):

    def test_clones_go_on_independently(self):
        for kind in CLASSES:
            board, model = board_of(kind, 3, 9)
            for step in (("add", "a", (0, 1, 2), 1), ("discard", "x"), ("add", "b", (1, 0, 2), 2), ("drop_dish", 1)):
                self.does(board, model, *step)
            before = whole(board)
            other = board.clone()
            self.assertIs(type(other), kind)
            self.assertEqual(whole(other), before)
            self.assertTrue(other == board)
            other.undo()
            other.apply_all([("discard", "a"), ("set_weight", "b", 7)])
            self.raises("Failed", {"index": 1}, lambda: other.apply_all([("discard", "b"), ("discard", "b")]))
            self.assertEqual(whole(board), before)
            self.agrees(board, model)
            after = whole(other)
            self.does(board, model, "undo")
            self.does(board, model, "undo")
            self.does(board, model, "add", "c", (2, 1, 0), 4)
            self.assertEqual(whole(other), after)
            self.agrees(board, model)

    def test_the_limit_is_the_same(self):
        for kind, limit in product(CLASSES, (0, 1, 60)):
            board, model = board_of(kind, 3, limit)
            other = board.clone()
            for number in range(limit):
                other.add("a", (0, 1, 2), 1) if number == 0 else other.set_weight("a", number)
            self.raises("TooMany", {"limit": limit}, lambda: other.drop_dish(0))
            self.agrees(board, model)

    def test_clones_of_dropped_dishes(self):
        for kind in CLASSES:
            board, model = board_of(kind, 4)
            self.does(board, model, "add", "a", (3, 1, 0, 2), 1)
            self.does(board, model, "drop_dish", 1)
            other = board.clone()
            self.agrees(other, model)
            other.undo()
            other.undo()
            self.same((other.dish_count(), board.dish_count()), (4, 3))

    def test_a_guarded_clone_stays_guarded(self):
        board = GuardedBoard(3)
        for name, ranking in zip("abc", ((0, 1, 2), (2, 1, 0), (1, 0, 2))):
            board.add(name, ranking, 1)
        other = board.clone().clone()
        table = (3, (*board.table()[1], ((0, 2, 1), 1)))
        self.raises("Blocked", table, lambda: other.add("d", (0, 2, 1), 1))


class Equality(BoardCase):

    def filled(self, kind, steps, dishes=3, limit=60):
        board = kind(dishes, limit=limit)
        for word, *arguments in steps:
            getattr(board, word)(*arguments)
        return board

    def test_different_histories_and_limits(self):
        ways = [
            [("add", "a", (0, 1, 2), 1), ("add", "b", (1, 0, 2), 2)],
            [("add", "b", (1, 0, 2), 2), ("add", "a", (0, 1, 2), 1)],
            [
                ("add", "b", (0, 1, 2), 2), ("add", "a", (0, 1, 2), 9), ("set_weight", "a", 1),
                ("set_ranking", "b", (1, 0, 2)),
            ],
            [("add", "c", (0, 1, 2), 2), ("undo",), ("add", "a", (0, 1, 2), 1), ("add", "b", (1, 0, 2), 2)],
        ]
        for kind in CLASSES:
            boards = [self.filled(kind, steps, limit=limit) for steps in ways for limit in (4, 60)]
            four = [("add", "b", (1, 3, 0, 2), 2), ("add", "a", (0, 1, 3, 2), 1), ("drop_dish", 3)]
            boards.append(self.filled(kind, four, dishes=4))
            for one, other in product(boards, repeat=2):
                self.same((one == other, one != other), (True, False))

    def test_every_difference(self):
        first = [("add", "a", (0, 1, 2), 1), ("add", "b", (1, 0, 2), 2)]
        more = [
            [], first[:1], [("add", "a", (0, 1, 2), 1), ("add", "c", (1, 0, 2), 2)],
            [("add", "a", (0, 1, 2), 1), ("add", "b", (0, 1, 2), 2)],
            [("add", "a", (0, 1, 2), 1), ("add", "b", (1, 0, 2), 3)],
            [("add", "a", (1, 0, 2), 2), ("add", "b", (0, 1, 2), 1)],
            [*first, ("add", "c", (0, 1, 2), 1)], [*first, ("drop_dish", 2)],
        ]
        for one, other in product(CLASSES, repeat=2):
            for steps in more:
                self.assertFalse(self.filled(one, first) == self.filled(other, steps))
                self.assertTrue(self.filled(one, first) != self.filled(other, steps))
        self.assertFalse(Board(3) == Board(4))

    def test_guarded_and_other_boards(self):
        steps = [("add", "a", (0, 1, 2), 1)]
        for one, other in product(CLASSES, repeat=2):
            self.same(one(3) == other(3), one is other)
            self.same(self.filled(one, steps) == self.filled(other, steps), one is other)
            self.same(self.filled(one, steps) != self.filled(other, steps), one is not other)

    def test_other_values(self):
        for board in (Board(3), GuardedBoard(3), self.filled(Board, [("add", "a", (0, 1, 2), 1)])):
            others = [*odd_values(), str(board), 3, len(board), board.names(), [board], (board,), view(board)]
            for value in others:
                self.same((board == value, value == board), (False, False))
                self.same((board != value, value != board), (True, True))
            self.same(board == board, True)

    def test_the_current_state_counts(self):
        board = self.filled(Board, [("add", "a", (0, 1, 2), 1)])
        other = board.clone()
        other.set_weight("a", 5)
        self.assertFalse(board == other)
        other.undo()
        self.assertTrue(board == other)
        self.assertNotEqual(board.log(), other.log())


class Words(BoardCase):

    def test_every_number(self):
        for dishes in range(1, 9):
            board = Board(dishes)
            self.same(str(board), f"board of {dishes} dishes, 0 tasters, weight 0")
            for many, name in enumerate(NAMES, 1):
                board.add(name, tuple(range(dishes)), HEAVY)
                self.same(str(board), f"board of {dishes} dishes, {many} tasters, weight {many * HEAVY}")
        self.same(str(GuardedBoard(1)), "board of 1 dishes, 0 tasters, weight 0")
        one = Board(1)
        one.add("a", (0,), 1)
        self.same(str(one), "board of 1 dishes, 1 tasters, weight 1")
        self.same(f"{one}", "board of 1 dishes, 1 tasters, weight 1")

    def test_operations_return_none(self):
        board = Board(3)
        found = [board.add("a", (0, 1, 2), 1), board.set_ranking("a", (1, 0, 2)), board.set_weight("a", 2)]
        found += [board.drop_dish(0), board.discard("a"), board.undo(), board.apply_all([("drop_dish", 0)])]
        self.same(found, [None] * 7)

    def test_arguments_by_name(self):
        board = Board(dishes=3, limit=9)
        board.add(name="a", ranking=(0, 1, 2), weight=1)
        board.set_ranking(name="a", ranking=(1, 0, 2))
        board.set_weight(name="a", weight=2)
        board.drop_dish(dish=2)
        board.discard(name="a")
        board.apply_all(operations=[("drop_dish", 0)])
        self.same((board.ranking_of(name="a", at=4), len(board)), ((1, 0), 6))


class Walks(BoardCase):

    def step(self, source, model):
        """An operation that is likely to succeed, with a wrong part now and then."""
        dishes, names = model.dishes, list(model.tasters)
        word = source.choice(["add"] * 6 + ["set_ranking"] * 6 + ["set_weight"] * 2 + ["discard"] * 2 + ["drop_dish"])
        fresh = [name for name in NAMES if name not in names]
        name = source.choice((fresh if word == "add" else names) or NAMES)
        known = [ranking for ranking, weight in model.tasters.values()]
        row = source.choice([*known, *[tuple(source.sample(range(dishes), dishes)) for attempt in range(3)]])
        weight = source.choice([1, 2, source.randint(1, HEAVY), HEAVY])
        arguments = {
            "add": (name, row, weight), "discard": (name,), "set_ranking": (name, row),
            "set_weight": (name, weight), "drop_dish": (source.randrange(dishes),),
        }
        given = list(arguments[word])
        if source.random() < 0.06:
            given[source.randrange(len(given))] = source.choice([*odd_values(), *names, *known, source.choice(NAMES)])
        return (word, *given)

    def walk(self, seed, kind):
        source = random.Random(seed)
        board, model = board_of(kind, source.randint(2, 7), source.choice([3, 20, 60, 60]))
        for number in range(80):
            choice = source.random()
            if choice < 0.15:
                self.does(board, model, "undo")
            elif choice < 0.3:
                # The later operations are made for the state before the batch: some of them fail.
                self.does_all(board, model, [self.step(source, model) for step in range(source.randint(0, 4))])
            else:
                self.does(board, model, *self.step(source, model))
            if number % 5 == 0:
                self.agrees(board, model)
            if kind is GuardedBoard:
                self.same(board.is_seatable(), True)
                self.assertEqual(conflicts(model.table()), [])
        self.agrees(board, model)
        for number in range(len(board) + 1):
            self.does(board, model, "undo")
        self.agrees(board, model)

    def test_boards(self):
        for seed in range(25):
            self.walk(seed, Board)

    def test_guarded_boards(self):
        for seed in range(25):
            self.walk(100 + seed, GuardedBoard)


class Guarantee(Case):

    def test_a_guarded_board_has_a_seating_at_every_moment(self):
        source = random.Random(26)
        for attempt in range(10):
            board = GuardedBoard(4)
            for name in NAMES:
                try:
                    board.add(name, tuple(source.sample(range(4), 4)), 1)
                except ValueError:
                    pass
            for at in range(len(board) + 1):
                self.same(board.is_seatable(at=at), True)
                if at:
                    self.assertEqual(conflicts(board.table(at=at)), [])
                    self.assertEqual(sorted(board.seating(at=at)), list(board.names(at=at)))
