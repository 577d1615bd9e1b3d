"""Points 105 to 107: the console."""

import copy
import random
from itertools import product

from helper import T, Case, obstructs, odd_values, rankings, right_form, small_tables, seatings, unseatable_tables
from model import BoardCase, Model, whole
from tasterow.boards import Board, GuardedBoard
from tasterow.consoles import Console
from tasterow.majorities import medians
from tasterow.menus import best_menu
from tasterow.texts import format_ranking, parse_obstruction

CLASSES = (Board, GuardedBoard)
TOO_LONG = "10000000000000"
WRONG_NUMBERS = ["", "00", "01", "007", "-1", "+1", "a", "1a", "1.0", "0x1", "1_0", TOO_LONG, "1\n", "\n", "1,2", "[1]"]
WRONG_NAMES = ["", "A", "aB", "abcdefghi", "a1", "1", "a_", "a-b", "a\n", "\n", "'a'", "a,b", "{", "`"]
WRONG_RANKINGS = [
    ">", "0>", ">0", "0>>1", "0,1,2", "(0,1,2)", "a", "0>a", "00>1>2", "0>01>2", f"0>{TOO_LONG}", "-0>1>2",
    "0>1>2\n", "0-1-2", "0<1", "", "0>1>2>", "\n",
]
# All commands with words of the right form.
LINES = [
    "add a 0>1>2 1", "discard a", "set_ranking a 1>0>2", "set_weight a 5", "drop_dish 0", "undo", "seating",
    "obstruction", "medians", "best_menu 1", "total", "ranking a",
]


def filled(kind, steps, dishes=3, limit=60):
    board = kind(dishes, limit=limit)
    for word, *arguments in steps:
        getattr(board, word)(*arguments)
    return board


def board_of_table(table):
    names = "abcdefghijklmnop"
    return filled(Board, [("add", name, *taster) for name, taster in zip(names, table[1])], table[0])


class Operations(BoardCase):

    def says(self, board, model, line, word, *arguments):
        """The answer and the board are those of the operation."""
        expected = model.run(word, *arguments)
        answer = Console(board).execute(line)
        self.same(answer, f"error {expected[0]}" if expected else "done")
        self.agrees(board, model)
        return answer

    def test_every_operation(self):
        for kind in CLASSES:
            board, model = kind(4), Model(4, guarded=kind is GuardedBoard)
            self.says(board, model, "add b 3>1>0>2 1000000000000", "add", "b", (3, 1, 0, 2), 10 ** 12)
            self.says(board, model, "add abcdefgh 0>1>2>3 1", "add", "abcdefgh", (0, 1, 2, 3), 1)
            self.says(board, model, "set_ranking b 1>0>2>3", "set_ranking", "b", (1, 0, 2, 3))
            self.says(board, model, "set_weight b 7", "set_weight", "b", 7)
            self.says(board, model, "drop_dish 3", "drop_dish", 3)
            self.says(board, model, "undo", "undo")
            self.says(board, model, "discard abcdefgh", "discard", "abcdefgh")
            self.same(len(board), 5)

    def test_errors_by_the_name_of_the_class(self):
        for kind in CLASSES:
            board, model = kind(3), Model(3, guarded=kind is GuardedBoard)
            self.assertEqual(self.says(board, model, "undo", "undo"), "error NothingToUndo")
            for line, *step in (
                ("add a 0>1>2 0", "add", "a", (0, 1, 2), 0), ("add a 0>1 1", "add", "a", (0, 1), 1),
                ("add a 0>1>2 1", "add", "a", (0, 1, 2), 1), ("add a 0>1>2 1", "add", "a", (0, 1, 2), 1),
                ("add b 0>1>2 1000000000001", "add", "b", (0, 1, 2), 10 ** 12 + 1),
                ("add b 0>1>2 9999999999999", "add", "b", (0, 1, 2), 9999999999999),
                ("add b 0>1>3 1", "add", "b", (0, 1, 3), 1), ("add b 0>1>1 0", "add", "b", (0, 1, 1), 0),
                ("discard x", "discard", "x"), ("set_ranking x 0>1>2", "set_ranking", "x", (0, 1, 2)),
                ("set_ranking a 0", "set_ranking", "a", (0,)), ("set_weight x 1", "set_weight", "x", 1),
                ("set_weight a 0", "set_weight", "a", 0), ("drop_dish 3", "drop_dish", 3),
                ("drop_dish 9999999999999", "drop_dish", 9999999999999), ("drop_dish 2", "drop_dish", 2),
                ("drop_dish 0", "drop_dish", 0), ("drop_dish 0", "drop_dish", 0), ("drop_dish 1", "drop_dish", 1),
            ):
                self.says(board, model, line, *step)
            for name in "bcdefghijklmnopq":
                self.says(board, model, f"add {name} 0 1", "add", name, (0,), 1)
            self.same(board.log()[-1], ("add", "TooMany"))

    def test_limits(self):
        for kind, limit in product(CLASSES, (0, 1)):
            board, model = kind(3, limit=limit), Model(3, limit, kind is GuardedBoard)
            self.says(board, model, "drop_dish 0", "drop_dish", 0)
            self.assertEqual(self.says(board, model, "discard x", "discard", "x"), "error TooMany")

    def test_blocked(self):
        for kind in CLASSES:
            board, model = kind(3), Model(3, guarded=kind is GuardedBoard)
            for name, (ranking, weight) in zip("abc", T[1]):
                self.says(board, model, f"add {name} {format_ranking(ranking)} {weight}", "add", name, ranking, weight)
            answer = self.says(board, model, "add d 0>2>1 1", "add", "d", (0, 2, 1), 1)
            self.assertEqual(answer, "error Blocked" if kind is GuardedBoard else "done")

    def test_long_rankings(self):
        board, model = Board(3), Model(3)
        long = tuple(range(1000))
        line = f"add a {format_ranking(long)} 1"
        self.assertLess(len(line), 5000)
        self.says(board, model, line, "add", "a", long, 1)

    def test_the_board_itself(self):
        for kind in CLASSES:
            board = kind(3)
            one, other = Console(board), Console(board)
            one.execute("add a 0>1>2 1")
            other.execute("add b 1>0>2 2")
            self.same(board.names(), ("a", "b"))
            board.discard("a")
            self.same(one.execute("total"), "2")
            self.same(len(one.history()), 2)

    def test_walks(self):
        source = random.Random(29)
        for seed in range(20):
            kind = CLASSES[seed % 2]
            dishes = source.randint(1, 5)
            board, model = kind(dishes), Model(dishes, guarded=kind is GuardedBoard)
            for number in range(30):
                row = tuple(source.sample(range(model.dishes), model.dishes))
                name, weight = source.choice("abcdef"), source.randint(0, 9)
                line, *step = source.choice([
                    (f"add {name} {format_ranking(row)} {weight}", "add", name, row, weight),
                    (f"add {name} {format_ranking(row)} {weight}", "add", name, row, weight),
                    (f"set_ranking {name} {format_ranking(row)}", "set_ranking", name, row),
                    (f"set_weight {name} {weight}", "set_weight", name, weight), (f"discard {name}", "discard", name),
                    ("undo", "undo"), (f"drop_dish {weight}", "drop_dish", weight),
                ])
                self.says(board, model, line, *step)


class Questions(Case):

    def asks(self, board, line):
        """A question changes nothing, and its answer is the same again."""
        before = whole(board)
        answer = Console(board).execute(line)
        self.same(Console(board).execute(line), answer)
        self.assertEqual(whole(board), before)
        self.assertIs(type(answer), str)
        return answer

    def test_tables(self):
        names = "abcdefghijklmnop"
        for table in small_tables()[::3]:
            board = board_of_table(table)
            self.same(self.asks(board, "total"), str(sum(weight for ranking, weight in table[1])))
            for size in range(1, table[0] + 1):
                expected = ",".join(str(dish) for dish in best_menu(table, size))
                self.same(self.asks(board, f"best_menu {size}"), expected)
            for name, (ranking, weight) in zip(names, table[1]):
                self.same(self.asks(board, f"ranking {name}"), ">".join(str(dish) for dish in ranking))
            if seatings(table):
                self.same(self.asks(board, "seating"), " ".join(names[taster] for taster in seatings(table)[0]))
                self.same(self.asks(board, "obstruction"), "none")
                expected = " ".join(">".join(str(dish) for dish in row) for row in medians(table))
                self.same(self.asks(board, "medians"), expected)
            else:
                self.same(self.asks(board, "seating"), "error NotSeatable")
                self.same(self.asks(board, "medians"), "error NotSeatable")

    def test_obstructions(self):
        for table in unseatable_tables()[::4]:
            value = parse_obstruction(self.asks(board_of_table(table), "obstruction"))
            self.assertTrue(right_form(table, value))
            self.assertTrue(obstructs(table, value))

    def test_nobody(self):
        for kind, dishes in product(CLASSES, (1, 3, 8)):
            board = kind(dishes)
            expected = {
                "seating": "error Empty", "obstruction": "-", "medians": "error Empty", "best_menu 1": "error Empty",
                "best_menu 0": "error Empty", "best_menu 99": "error Empty", "total": "0",
                "ranking a": "error UnknownName",
            }
            for line, answer in expected.items():
                self.same(self.asks(board, line), answer)

    def test_sizes(self):
        board = filled(Board, [("add", "a", (2, 0, 1), 5)])
        for size in (0, 4, 5, 9999999999999):
            self.same(self.asks(board, f"best_menu {size}"), "error NoSize")
        self.same(self.asks(board, "best_menu 1"), "2")
        self.same(self.asks(board, "best_menu 2"), "0,2")
        self.same(self.asks(board, "best_menu 3"), "0,1,2")

    def test_unknown_names(self):
        board = filled(Board, [("add", "a", (2, 0, 1), 5)])
        for name in ("b", "aa", "zzzzzzzz"):
            self.same(self.asks(board, f"ranking {name}"), "error UnknownName")
        self.same(self.asks(board, "ranking a"), "2>0>1")

    def test_two_medians(self):
        board = filled(Board, [("add", "a", (1, 0), 5), ("add", "b", (0, 1), 5)], 2)
        self.same(self.asks(board, "medians"), "0>1 1>0")
        self.same(self.asks(board, "seating"), "a b")

    def test_great_weights(self):
        board = filled(Board, [("add", name, (0,), 10 ** 12) for name in "abcdefghijklmnop"], 1)
        self.same(self.asks(board, "total"), "16000000000000")


class Syntax(Case):

    def is_wrong(self, value):
        for kind in CLASSES:
            board = filled(kind, [("add", "a", (0, 1, 2), 1), ("add", "b", (1, 0, 2), 2)])
            before = whole(board)
            console = Console(board)
            with self.subTest(value=value):
                self.same(console.execute(value), "syntax error")
                self.assertEqual(whole(board), before)
                self.same(console.history(), ((value if isinstance(value, str) else None, "syntax error"),))

    def test_right_lines(self):
        for line in LINES:
            board = filled(Board, [("add", "b", (0, 1, 2), 1)])
            self.assertNotEqual(Console(board).execute(line), "syntax error")

    def test_spaces(self):
        for line in LINES:
            for wrong in (" " + line, line + " ", line + "\n", "\n" + line, line + "\n" + line):
                self.is_wrong(wrong)
            if " " in line:
                self.is_wrong(line.replace(" ", "  "))
                self.is_wrong(line.replace(" ", "\n"))
                self.is_wrong(line.replace(" ", ""))
                self.is_wrong(line.replace(" ", ","))
        for line in ("", " ", "  ", "\n"):
            self.is_wrong(line)

    def test_capital_letters(self):
        for line in LINES:
            self.is_wrong(line.upper())
            self.is_wrong(line[0].upper() + line[1:])
        for line in ("add A 0>1>2 1", "ranking A", "discard aB"):
            self.is_wrong(line)

    def test_too_many_and_too_few_words(self):
        for line in LINES:
            words = line.split(" ")
            for more in ("a", "1", "0>1>2", "x y"):
                self.is_wrong(f"{line} {more}")
            for many in range(1, len(words)):
                self.is_wrong(" ".join(words[:many]))
                self.is_wrong(" ".join(words[many:]))

    def test_words_in_another_order(self):
        for line in ("add 0>1>2 a 1", "add c 1 0>1>2", "a discard", "set_ranking 0>1>2 a", "set_weight 1 a"):
            self.is_wrong(line)

    def test_wrong_words(self):
        for number in WRONG_NUMBERS:
            for words in ("add c 0>1>2", "set_weight a", "drop_dish", "best_menu"):
                self.is_wrong(f"{words} {number}")
        for name in WRONG_NAMES:
            for line in (f"add {name} 0>1>2 1", f"discard {name}", f"set_ranking {name} 0>1>2", f"set_weight {name} 1"):
                self.is_wrong(line)
            self.is_wrong(f"ranking {name}")
        for ranking in WRONG_RANKINGS:
            self.is_wrong(f"add c {ranking} 1")
            self.is_wrong(f"set_ranking a {ranking}")

    def test_thirteen_digits(self):
        board = filled(Board, [("add", "a", (0, 1, 2), 1)])
        self.same(Console(board).execute("set_weight a 1000000000000"), "done")
        self.same(Console(board).execute("set_weight a 9999999999999"), "error NoWeight")
        self.is_wrong("set_weight a 10000000000000")
        self.is_wrong("set_weight a 01000000000000")
        self.is_wrong("set_weight a " + "1" * 4000)
        self.same(Console(board).execute("set_ranking a 9999999999999>0>1"), "error NoRanking")

    def test_other_commands(self):
        for line in (
            "apply_all", "log", "clone", "table", "names", "history", "execute undo", "weight a", "help", "undo 1",
            "weight_of a", "ranking_of a", "dish_count", "is_seatable", "str", "len", "error", "done", "#", "undo;",
        ):
            self.is_wrong(line)

    def test_any_value(self):
        for value in [*odd_values(), b"undo", ["undo"], ("undo",), ("discard", "a"), {"undo": 1}, [*LINES]]:
            self.is_wrong(value)

    def test_names_of_all_commands_as_names(self):
        board = Board(1)
        console = Console(board)
        for name in ("add", "discard", "undo", "seating", "medians", "total", "ranking"):
            self.same(console.execute(f"add {name} 0 1"), "done")
            self.same(console.execute(f"ranking {name}"), "0")


class History(Case):

    def test_the_last_twenty(self):
        for kind in CLASSES:
            console = Console(kind(3))
            expected = []
            self.same(console.history(), ())
            for number in range(50):
                line = ["undo", "drop_dish 7", None, "total", "x", 5, "", ["undo"]][number % 8]
                answer = console.execute(line)
                expected.append((line if isinstance(line, str) else None, answer))
                self.same(console.history(), tuple(expected[-20:]))

    def test_each_console_has_its_own(self):
        board = Board(3)
        one, other = Console(board), Console(board)
        one.execute("total")
        self.same((one.history(), other.history()), ((("total", "0"),), ()))

    def test_the_result_does_not_change_later(self):
        console = Console(Board(3))
        console.execute("total")
        before = console.history()
        console.execute("undo")
        self.same(before, (("total", "0"),))

    def test_lines_stay_as_they_are(self):
        console = Console(Board(3))
        for line in (" total ", "TOTAL", "a\nb", "total"):
            console.execute(line)
        self.same([line for line, answer in console.history()], [" total ", "TOTAL", "a\nb", "total"])

    def test_line_by_name(self):
        self.same(Console(board=Board(3)).execute(line="total"), "0")


class Independence(Case):

    def test_clones(self):
        board = Board(3)
        console = Console(board)
        console.execute("add a 0>1>2 1")
        other = board.clone()
        console.execute("undo")
        self.same((board.names(), other.names()), ((), ("a",)))

    def test_values_are_not_changed(self):
        for value in odd_values():
            before = copy.deepcopy(value)
            Console(Board(3)).execute(value)
            self.same(value, before)

    def test_every_ranking(self):
        for dishes in range(1, 5):
            for ranking in rankings(dishes):
                board = Board(dishes)
                console = Console(board)
                text = ">".join(str(dish) for dish in ranking)
                self.same(console.execute(f"add a {text} 1"), "done")
                self.same(board.ranking_of("a"), ranking)
                self.same(console.execute("ranking a"), text)
