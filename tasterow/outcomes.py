"""Outcomes: what an action returns, or the name of the class of the exception that it raises."""

from tasterow.errors import (
    Blocked, Empty, LastOne, NameTaken, NoDish, NoName, NoRanking, NoSize, NotSeatable, NothingToUndo, NoWeight,
    TooMany, UnknownName,
)


def attempt(action):
    """Return ("done", what the action returns), or (name of the exception, None).

    The action is an operation or a question that a console asks: it raises no other exceptions.
    """
    try:
        return ("done", action())
    except TooMany:
        return ("TooMany", None)
    except NoName:
        return ("NoName", None)
    except NameTaken:
        return ("NameTaken", None)
    except UnknownName:
        return ("UnknownName", None)
    except NoRanking:
        return ("NoRanking", None)
    except NoWeight:
        return ("NoWeight", None)
    except NoDish:
        return ("NoDish", None)
    except LastOne:
        return ("LastOne", None)
    except Blocked:
        return ("Blocked", None)
    except NothingToUndo:
        return ("NothingToUndo", None)
    except Empty:
        return ("Empty", None)
    except NotSeatable:
        return ("NotSeatable", None)
    except NoSize:
        return ("NoSize", None)
