"""Costs: the most comparisons of a code's plays on trees of a height."""

from nextcode.bills import cost_at
from nextcode.codes import KINDS_WITH_UPS
from nextcode.errors import BadSize
from nextcode.search import notes_of
from nextcode.trees import is_integer


def most(code, n):
    """The greatest number of comparisons in a play, done or not, on a tree whose height is at most n."""
    # A node can only be handed if there is one.
    if not is_integer(n) or n < (1 if code.kind in KINDS_WITH_UPS else 0):
        raise BadSize(n)
    return max([cost_at(bill, n) for bill in notes_of(code).bills], default=0)
