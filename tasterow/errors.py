"""The exceptions of the package: TasteError, and its direct subclasses."""


class TasteError(ValueError):
    """What all exceptions of the package have in common."""


class NoRanking(TasteError):
    """A value is not a ranking of the dishes."""

    def __init__(self, ranking):
        self.ranking = ranking


class NoWeight(TasteError):
    """A value is not an integer from 1 to MAX_WEIGHT."""

    def __init__(self, weight):
        self.weight = weight


class NoTaster(TasteError):
    """A value is not the number of a taster."""

    def __init__(self, taster):
        self.taster = taster


class NoDish(TasteError):
    """A value is not the number of a suitable dish."""

    def __init__(self, dish):
        self.dish = dish


class NoIndex(TasteError):
    """A value is not the index of a ranking or a seating."""

    def __init__(self, index):
        self.index = index


class NotSeatable(TasteError):
    """A table has no seating, as the obstruction shows."""

    def __init__(self, obstruction):
        self.obstruction = obstruction


class NoSeating(TasteError):
    """A value is not a seating of the table."""


class NoMenu(TasteError):
    """A value is not a menu."""


class NoSize(TasteError):
    """A value is not the size of a menu."""

    def __init__(self, size):
        self.size = size


class NoCuts(TasteError):
    """A value does not cut a seating into blocks."""


class NoSpan(TasteError):
    """Two values are not the ends of a span."""


class NoPlaces(TasteError):
    """A value is not a tuple of places on a line."""


class TooMany(TasteError):
    """There would be more than the limit allows."""

    def __init__(self, limit):
        self.limit = limit


class LastOne(TasteError):
    """The only taster or the only dish cannot be removed."""


class Empty(TasteError):
    """A board has no tasters."""


class BadDishes(TasteError):
    """A value is not a number of dishes."""

    def __init__(self, dishes):
        self.dishes = dishes


class NoName(TasteError):
    """A value is not a valid name."""

    def __init__(self, name):
        self.name = name


class UnknownName(TasteError):
    """A value is not the name of a taster on the board."""

    def __init__(self, name):
        self.name = name


class NameTaken(TasteError):
    """A taster on the board has the name already."""

    def __init__(self, name):
        self.name = name


class NothingToUndo(TasteError):
    """No operation is in effect."""


class NoMoment(TasteError):
    """A value is not a moment of the board."""

    def __init__(self, at):
        self.at = at


class NoOperations(TasteError):
    """A value is not a batch of operations."""


class Failed(TasteError):
    """The operation at the index raised an exception."""

    def __init__(self, index):
        self.index = index


class Blocked(TasteError):
    """The tasters would not be seatable, as the obstruction shows."""

    def __init__(self, obstruction):
        self.obstruction = obstruction


class BadText(TasteError):
    """A value is not a correct text; line says where, None that it is no string."""

    def __init__(self, line):
        self.line = line
