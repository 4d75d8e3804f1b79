"""Verdicts: which promises a code keeps on trees of every shape and size, and the least cases of those it breaks."""

from nextcode.cases import case_of
from nextcode.errors import BadPromise
from nextcode.promises import PROMISES
from nextcode.search import notes_of


def keeps(code, promise):
    """Whether a code keeps a promise."""
    check_promise(promise)
    return promise not in notes_of(code).by_promise


def kept(code):
    """The promises that a code keeps, in their order."""
    return tuple([promise for promise in PROMISES if keeps(code, promise)])


def least_case(code, promise):
    """A case with the fewest nodes whose play breaks the promise, or None if the promise is kept."""
    check_promise(promise)
    return case_against(code, promise)


def case_against(code, promise):
    """A case with the fewest nodes whose play breaks a promise, or is REFILLED, or None."""
    broken = notes_of(code).by_promise
    if promise not in broken:
        return None
    _, world, wants = broken[promise]
    return case_of(world, wants)


def check_promise(promise):
    if type(promise) != str or promise not in PROMISES:
        raise BadPromise(promise)
