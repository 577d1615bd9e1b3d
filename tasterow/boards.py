"""Boards: tasters with names, who change by operations that can be undone."""

from tasterow.errors import (
    BadDishes, Blocked, Empty, Failed, NoMoment, NoOperations, NothingToUndo, TasteError, TooMany,
)
from tasterow.limits import LOG_SIZE, MAX_DISHES, MAX_OPERATIONS
from tasterow.obstructions import find_obstruction, first_seating
from tasterow.outcomes import attempt
from tasterow.states import ACTIONS, is_batch, is_seatable_state, taster_named
from tasterow.tables import total_weight
from tasterow.values import is_within


class Board:
    """A number of dishes, and tasters with names."""

    def __init__(self, dishes, *, limit=MAX_OPERATIONS):
        if not is_within(dishes, 1, MAX_DISHES):
            raise BadDishes(dishes)
        self.limit = limit
        # The state at each moment: at index k that after k of the operations in effect.
        self.states = [((), (dishes, ()))]
        self.entries = []

    def is_guarded(self):
        """Return whether the board has to stay seatable."""
        return False

    def blank(self):
        """Return a new board of the same class with the same dishes and limit as this one at first."""
        return Board(self.dish_count(at=0), limit=self.limit)

    def check(self, state):
        """Raise an exception if the board may not get into that state."""

    def record(self, word, outcome):
        """Add an entry to the log."""
        self.entries = [*self.entries, (word, outcome)][-LOG_SIZE:]

    def after(self, word, arguments):
        """Return the state after that operation, or raise what the operation raises."""
        if len(self) >= self.limit:
            raise TooMany(self.limit)
        action = ACTIONS[word]
        state = action(self.states[-1], *arguments)
        self.check(state)
        return state

    def perform(self, word, arguments):
        """Perform that operation, or raise what it raises, and record the outcome."""
        try:
            state = self.after(word, arguments)
        except TasteError:
            # The name of an exception is known only where it is caught by its name.
            self.record(word, attempt(lambda: self.after(word, arguments))[0])
            raise
        self.states.append(state)
        self.record(word, "done")

    def add(self, name, ranking, weight):
        """Add a taster."""
        self.perform("add", (name, ranking, weight))

    def discard(self, name):
        """Remove a taster."""
        self.perform("discard", (name,))

    def set_ranking(self, name, ranking):
        """Replace the ranking of a taster."""
        self.perform("set_ranking", (name, ranking))

    def set_weight(self, name, weight):
        """Replace the weight of a taster."""
        self.perform("set_weight", (name, weight))

    def drop_dish(self, dish):
        """Remove a dish from the board and from all rankings."""
        self.perform("drop_dish", (dish,))

    def undo(self):
        """Revert the last operation that is in effect."""
        if len(self) == 0:
            self.record("undo", "NothingToUndo")
            raise NothingToUndo()
        self.states.pop()
        self.record("undo", "done")

    def revert(self, many):
        """Take back so many operations, whose entries stand in the log before that of the failed one."""
        self.states = self.states[:len(self.states) - many]
        start = len(self.entries) - 1 - many
        reverted = [(word, "reverted") for word, outcome in self.entries[start:-1]]
        self.entries = self.entries[:start] + reverted + self.entries[-1:]

    def apply_all(self, operations):
        """Perform all operations in order, or none of them."""
        if not is_batch(operations):
            raise NoOperations()
        for index, (word, *arguments) in enumerate(operations):
            try:
                self.perform(word, arguments)
            except TasteError:
                self.revert(index)
                raise Failed(index)

    def log(self):
        """Return the tuple of the last entries (word, outcome), the latest one last."""
        return tuple(self.entries)

    def moment(self, at):
        """Return the state after so many of the operations in effect, the current one for None."""
        if at is None:
            return self.states[-1]
        if not is_within(at, 0, len(self)):
            raise NoMoment(at)
        return self.states[at]

    def taster_of(self, name, at):
        """Return (ranking, weight) of the taster with that name at that moment."""
        state = self.moment(at)
        return state[1][1][taster_named(state, name)]

    def dish_count(self, *, at=None):
        """Return the number of dishes."""
        return self.moment(at)[1][0]

    def names(self, *, at=None):
        """Return the ascending tuple of the names of all tasters."""
        return self.moment(at)[0]

    def ranking_of(self, name, *, at=None):
        """Return the ranking of a taster."""
        return self.taster_of(name, at)[0]

    def weight_of(self, name, *, at=None):
        """Return the weight of a taster."""
        return self.taster_of(name, at)[1]

    def table(self, *, at=None):
        """Return the table of all tasters, in the order of their names."""
        names, table = self.moment(at)
        if len(names) == 0:
            raise Empty()
        return table

    def seating(self, *, at=None):
        """Return the tuple of the names in the order of the first seating."""
        order = first_seating(self.table(at=at))
        names = self.names(at=at)
        return tuple([names[taster] for taster in order])

    def is_seatable(self, *, at=None):
        """Return whether the tasters are seatable."""
        return is_seatable_state(self.moment(at))

    def clone(self):
        """Return an independent board of the same class, with the same state, operations and log."""
        board = self.blank()
        board.states = list(self.states)
        board.entries = list(self.entries)
        return board

    def total(self):
        """Return the total weight of all tasters, 0 if there are none."""
        return total_weight(self.moment(None)[1])

    def __len__(self):
        """Return the number of operations in effect."""
        return len(self.states[1:])

    def __str__(self):
        return f"board of {self.dish_count()} dishes, {len(self.names())} tasters, weight {self.total()}"

    def __eq__(self, other):
        if not isinstance(other, Board):
            return False
        return self.is_guarded() == other.is_guarded() and self.moment(None) == other.moment(None)


class GuardedBoard(Board):
    """A board whose tasters are always seatable."""

    def __init__(self, dishes, *, limit=MAX_OPERATIONS):
        Board.__init__(self, dishes, limit=limit)

    def is_guarded(self):
        """Return whether the board has to stay seatable."""
        return True

    def blank(self):
        """Return a new board of the same class with the same dishes and limit as this one at first."""
        return GuardedBoard(self.dish_count(at=0), limit=self.limit)

    def check(self, state):
        """Raise Blocked unless the tasters of that state are seatable."""
        if not is_seatable_state(state):
            raise Blocked(find_obstruction(state[1]))
