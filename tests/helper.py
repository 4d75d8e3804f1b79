"""What several tests need: how a code fares, and values of every kind."""

from nextcode.codes import Code
from nextcode.errors import BadKind, BadLine, BadUps, Refused, TooMany

ALL_KINDS = ("find", "after", "first", "next", "put", "take", "drop", "leave")
SEARCHES = ("find", "after", "first", "put", "drop")
STANDING = ("next", "take", "leave")


def text_of(rows):
    """The text of rows that are joined by `; `."""
    return rows.replace("; ", "\n")


def fate(kind, text, ups=True):
    """What making a code of this text comes to: "right", or the error's name and what it tells."""
    try:
        Code(kind, text, ups)
    except (BadLine, Refused) as error:
        return error.__class__.__name__, error.line
    except TooMany as error:
        return error.what, error.many, error.most
    except BadKind as error:
        return "BadKind", error.kind
    except BadUps as error:
        return "BadUps", error.ups
    return "right"


class Sour:
    """An object that can not be asked for anything."""

    __hash__ = None

    def fail(self, *rest):
        raise RuntimeError("asked")

    __eq__ = __ne__ = __lt__ = __le__ = __gt__ = __ge__ = fail
    __len__ = __iter__ = __getitem__ = __bool__ = __repr__ = __str__ = __index__ = __int__ = fail


class Agreeing:
    """An object that says that it is equal to everything."""

    __hash__ = None

    def __eq__(self, other):
        return True


def odd_values():
    """Values of kinds that no argument of the package has."""
    ring = []
    ring.append(ring)
    return [0, 1, -1, 2, 1.5, float("nan"), 1j, b"put", [], ["put"], ("put",), (), {}, {"put": 1}, set(), frozenset(),
            ring, object(), int, len, lambda: 1, Ellipsis, NotImplemented, Sour(), Agreeing(), iter([]), range(3)]
