"""A console: lines of text that change a board or ask about it."""

from tasterow.majorities import medians
from tasterow.menus import best_menu
from tasterow.obstructions import certificate
from tasterow.outcomes import attempt
from tasterow.tables import total_weight
from tasterow.texts import format_obstruction, format_ranking, read_number, read_numbers
from tasterow.values import is_name

HISTORY_SIZE = 20


def run_add(board, name, ranking, weight):
    """Add a taster."""
    board.add(name, ranking, weight)
    return "done"


def run_discard(board, name):
    """Remove a taster."""
    board.discard(name)
    return "done"


def run_set_ranking(board, name, ranking):
    """Replace the ranking of a taster."""
    board.set_ranking(name, ranking)
    return "done"


def run_set_weight(board, name, weight):
    """Replace the weight of a taster."""
    board.set_weight(name, weight)
    return "done"


def run_drop_dish(board, dish):
    """Remove a dish."""
    board.drop_dish(dish)
    return "done"


def run_undo(board):
    """Revert the last operation."""
    board.undo()
    return "done"


def tell_seating(board):
    """Return the names in the order of the first seating."""
    return " ".join(board.seating())


def tell_obstruction(board):
    """Return an obstruction, or that there is none, or that there are no tasters."""
    if len(board.names()) == 0:
        return "-"
    return "none" if board.is_seatable() else format_obstruction(certificate(board.table()))


def tell_medians(board):
    """Return the median rankings."""
    return " ".join([format_ranking(ranking) for ranking in medians(board.table())])


def tell_best_menu(board, size):
    """Return the dishes of the best menu of that size."""
    return ",".join([str(dish) for dish in best_menu(board.table(), size)])


def tell_total(board):
    """Return the total weight."""
    return "0" if len(board.names()) == 0 else str(total_weight(board.table()))


def tell_ranking(board, name):
    """Return the ranking of a taster."""
    return format_ranking(board.ranking_of(name))


COMMANDS = {
    "add": run_add,
    "discard": run_discard,
    "set_ranking": run_set_ranking,
    "set_weight": run_set_weight,
    "drop_dish": run_drop_dish,
    "undo": run_undo,
    "seating": tell_seating,
    "obstruction": tell_obstruction,
    "medians": tell_medians,
    "best_menu": tell_best_menu,
    "total": tell_total,
    "ranking": tell_ranking,
}
# What stands behind the word of each command.
FORMS = {
    "add": ("name", "ranking", "number"),
    "discard": ("name",),
    "set_ranking": ("name", "ranking"),
    "set_weight": ("name", "number"),
    "drop_dish": ("number",),
    "undo": (),
    "seating": (),
    "obstruction": (),
    "medians": (),
    "best_menu": ("number",),
    "total": (),
    "ranking": ("name",),
}


def read_argument(kind, text):
    """Return what a word of that kind means, or None."""
    if kind == "name":
        return text if is_name(text) else None
    return read_numbers(text, ">") if kind == "ranking" else read_number(text)


def read_line(line):
    """Return the word of the command followed by what its arguments mean, or None."""
    if not isinstance(line, str):
        return None
    word, *texts = line.split(" ")
    if word not in FORMS or len(texts) != len(FORMS[word]):
        return None
    meant = [read_argument(kind, text) for kind, text in zip(FORMS[word], texts)]
    return None if None in meant else [word, *meant]


def answer_of(board, line):
    """Return the answer to that line; perform its operation."""
    parts = read_line(line)
    if parts is None:
        return "syntax error"
    word, *arguments = parts
    command = COMMANDS[word]
    outcome, answer = attempt(lambda: command(board, *arguments))
    return answer if outcome == "done" else f"error {outcome}"


class Console:
    """A board, and the last lines and their answers."""

    def __init__(self, board):
        self.board = board
        self.pairs = []

    def execute(self, line):
        """Return the answer to that line."""
        answer = answer_of(self.board, line)
        told = line if isinstance(line, str) else None
        self.pairs = [*self.pairs, (told, answer)][-HISTORY_SIZE:]
        return answer

    def history(self):
        """Return the tuple of the last pairs (line, answer)."""
        return tuple(self.pairs)
