"""A slow board that follows the words of the document, and ways to compare a board with it."""

import copy
import re
from itertools import combinations

from helper import Case, seatable_marks, sides
from tasterow import errors
from tasterow.boards import Board, GuardedBoard


def is_number(value, low, high):
    return type(value) is int and low <= value <= high


def is_row(value, dishes):
    """Whether value is a ranking of that many dishes."""
    if type(value) is not tuple or any(type(part) is not int for part in value):
        return False
    return sorted(value) == list(range(dishes))


def conflicts(table):
    """The threes and fours of tasters that are not seatable by themselves."""
    marks = sides(table)
    rows = [row for many in (3, 4) for row in combinations(range(len(marks)), many)]
    return [row for row in rows if not seatable_marks(tuple(marks[taster] for taster in row))]


class Model:
    """The dishes, {name: (ranking, weight)}, the earlier states and the log of a board."""

    def __init__(self, dishes, limit=60, guarded=False):
        self.dishes, self.limit, self.guarded = dishes, limit, guarded
        self.tasters = {}
        self.earlier = []
        self.entries = []

    def table(self):
        return (self.dishes, tuple(self.tasters[name] for name in sorted(self.tasters)))

    def seatable(self):
        return not conflicts(self.table())

    def fault(self, word, *arguments):
        """The first exception that applies, as (class name, attributes), or None."""
        if len(self.earlier) >= self.limit:
            return ("TooMany", {"limit": self.limit})
        found = getattr(self, "faults_of_" + word)(*arguments)
        if found:
            return found[0]
        after = copy.deepcopy(self)
        getattr(after, "do_" + word)(*arguments)
        if self.guarded and not after.seatable():
            return ("Blocked", after.table())
        return None

    def unknown(self, name):
        known = type(name) is str and name in self.tasters
        return [] if known else [("UnknownName", {"name": name})]

    def bad_ranking(self, ranking):
        return [] if is_row(ranking, self.dishes) else [("NoRanking", {"ranking": ranking})]

    def bad_weight(self, weight):
        return [] if is_number(weight, 1, 10 ** 12) else [("NoWeight", {"weight": weight})]

    def faults_of_add(self, name, ranking, weight):
        found = []
        if type(name) is not str or not re.fullmatch("[a-z]{1,8}", name):
            found.append(("NoName", {"name": name}))
        elif name in self.tasters:
            found.append(("NameTaken", {"name": name}))
        found += self.bad_ranking(ranking) + self.bad_weight(weight)
        return found + ([("TooMany", {"limit": 16})] if len(self.tasters) >= 16 else [])

    def faults_of_discard(self, name):
        return self.unknown(name)

    def faults_of_set_ranking(self, name, ranking):
        return self.unknown(name) + self.bad_ranking(ranking)

    def faults_of_set_weight(self, name, weight):
        return self.unknown(name) + self.bad_weight(weight)

    def faults_of_drop_dish(self, dish):
        if not is_number(dish, 0, self.dishes - 1):
            return [("NoDish", {"dish": dish})]
        return [("LastOne", {})] if self.dishes == 1 else []

    def do_add(self, name, ranking, weight):
        self.tasters[name] = (ranking, weight)

    def do_discard(self, name):
        del self.tasters[name]

    def do_set_ranking(self, name, ranking):
        self.tasters[name] = (ranking, self.tasters[name][1])

    def do_set_weight(self, name, weight):
        self.tasters[name] = (self.tasters[name][0], weight)

    def do_drop_dish(self, dish):
        self.dishes -= 1
        for name, (ranking, weight) in list(self.tasters.items()):
            left = tuple(other - (other > dish) for other in ranking if other != dish)
            self.tasters[name] = (left, weight)

    def run(self, word, *arguments):
        """Perform an operation, or tell the exception that it raises."""
        found = self.undo_fault() if word == "undo" else self.fault(word, *arguments)
        self.entries.append((word, found[0] if found else "done"))
        if found is None:
            if word == "undo":
                self.dishes, self.tasters = self.earlier.pop()
            else:
                self.earlier.append((self.dishes, dict(self.tasters)))
                getattr(self, "do_" + word)(*arguments)
        return found

    def undo_fault(self):
        return None if self.earlier else ("NothingToUndo", {})

    def run_all(self, operations):
        """Perform a batch of the right form, or tell the exception."""
        start = len(self.entries)
        before = (self.dishes, dict(self.tasters), list(self.earlier))
        for index, (word, *arguments) in enumerate(operations):
            if self.run(word, *arguments):
                self.dishes, self.tasters, self.earlier = before
                done = [(other, "reverted") for other, outcome in self.entries[start:-1]]
                self.entries[start:-1] = done
                return ("Failed", {"index": index})
        return None

    def moments(self):
        """The state after each number of operations in effect, from 0 on."""
        return [*self.earlier, (self.dishes, self.tasters)]

    def board(self):
        """A board that was created as this model was; nothing is done with it yet."""
        dishes = self.moments()[0][0]
        return (GuardedBoard if self.guarded else Board)(dishes, limit=self.limit)


def view(board, at=None):
    """What the queries tell of one moment, in the form of a model."""
    names = board.names(at=at)
    tasters = {name: (board.ranking_of(name, at=at), board.weight_of(name, at=at)) for name in names}
    return (board.dish_count(at=at), tasters)


def whole(board):
    """Everything that can be asked, for comparing a board with itself later."""
    return repr(([view(board, at) for at in range(len(board) + 1)], view(board), board.log(), len(board), str(board)))


class BoardCase(Case):
    """A test case that performs the same on a board and on a model."""

    def agrees(self, board, model):
        """The board tells what the model knows, at every moment."""
        moments = model.moments()
        self.same(len(board), len(moments) - 1)
        for at, state in [*enumerate(moments), (None, moments[-1])]:
            self.view_agrees(board, at, *state)
        self.same(board.log(), tuple(model.entries[-100:]))
        many, heavy = len(model.tasters), sum(weight for ranking, weight in model.tasters.values())
        self.same(str(board), f"board of {model.dishes} dishes, {many} tasters, weight {heavy}")

    def view_agrees(self, board, at, dishes, tasters):
        names = tuple(sorted(tasters))
        self.same(board.dish_count(at=at), dishes)
        self.same(board.names(at=at), names)
        for name in names:
            self.same((board.ranking_of(name, at=at), board.weight_of(name, at=at)), tasters[name])
        if names:
            self.same(board.table(at=at), (dishes, tuple(tasters[name] for name in names)))
        else:
            self.raises("Empty", {}, lambda: board.table(at=at))

    def raises(self, name, attributes, action):
        """The action raises that exception, with those very values or with an obstruction of a table."""
        error = getattr(errors, name)
        with self.assertRaises(error) as caught:
            action()
        self.assertIs(type(caught.exception), error)
        found = vars(caught.exception)
        if name in ("Blocked", "NotSeatable"):
            self.assertEqual(list(found), ["obstruction"])
            self.is_obstruction_of(attributes, found["obstruction"])
        else:
            self.assertEqual(list(found), list(attributes))
            for key in attributes:
                self.assertIs(type(found[key]), type(attributes[key]))
                self.assertTrue(found[key] is attributes[key] or key in ("limit", "index"))
                self.assertEqual(found[key], attributes[key])

    def does(self, board, model, word, *arguments):
        """Perform one operation on both; an exception changes nothing but the log."""
        before, given = [view(board, at) for at in range(len(board) + 1)], repr(arguments)
        expected = model.run(word, *arguments)
        method = getattr(board, word)
        if expected is None:
            self.assertIsNone(method(*arguments))
        else:
            self.raises(*expected, lambda: method(*arguments))
            self.same([view(board, at) for at in range(len(board) + 1)], before)
        self.assertEqual(repr(arguments), given)
        self.assertEqual(board.log()[-1], model.entries[-1])
        return expected

    def does_all(self, board, model, operations):
        """Perform a batch on both."""
        before, given = [view(board, at) for at in range(len(board) + 1)], repr(operations)
        expected = model.run_all(operations)
        if expected is None:
            self.assertIsNone(board.apply_all(operations))
        else:
            self.raises(*expected, lambda: board.apply_all(operations))
            self.same([view(board, at) for at in range(len(board) + 1)], before)
        self.assertEqual(repr(operations), given)
        return expected
