"""All told trees of some nodes, all that can be handed with them, and what the plays on them come to."""

from nextcode.play import play
from nextcode.promises import PROMISES
from nextcode.search import notes_of
from nextcode.trees import all_items
from nextcode.uses import (all_stations, case_for_line, case_for_side, case_for_station, used_lines, used_sides)
from nextcode.verdicts import keeps, kept, least_case


def trees_of(low, high):
    """All told trees with the items (2, 2), (4, 4) and so on, from the number low to high - 1."""
    if low == high:
        return [None]
    return [(left, (2 * root + 2, 2 * root + 2), right)
            for root in range(low, high) for left in trees_of(low, root) for right in trees_of(root + 1, high)]


TREES = {many: trees_of(0, many) for many in range(6)}


def shapes_of(most):
    """All shapes (left, right) of trees whose height is at most so many."""
    if most == 0:
        return [None]
    below = shapes_of(most - 1)
    return [None] + [(left, right) for left in below for right in below]


def filled(shape, many):
    """The told tree of a shape with such items behind so many other ones, and how many there are then."""
    if shape is None:
        return None, many
    left, many = filled(shape[0], many)
    item = (2 * many + 2, 2 * many + 2)
    right, many = filled(shape[1], many + 1)
    return (left, item, right), many


TREES_BY_HEIGHT = {most: [filled(shape, 0)[0] for shape in shapes_of(most)] for most in range(5)}


def handed_for(kind, many):
    """What can be handed with such a tree of so many nodes."""
    if kind == "first":
        return [None]
    if kind in ("next", "take", "leave"):
        return list(range(many))
    if kind == "put":
        return [(2 * place + 1, 1) for place in range(many + 1)]
    return list(range(1, 2 * many + 2))


def cases_for(kind, most):
    """All cases of at most so many nodes, those with fewer nodes first."""
    return [(tree, handed) for many in range(most + 1) for tree in TREES[many] for handed in handed_for(kind, many)]


def most_compares(code, n):
    """The greatest number of comparisons in the plays on all trees whose height is at most n."""
    return max(play(code, tree, handed).compares for tree in TREES_BY_HEIGHT[n]
               for handed in handed_for(code.kind, len(all_items(tree))))


def disagreements(code, most):
    """What verdicts and uses tell of a code that the plays on all trees of at most so many nodes do not bear out."""
    fewest, lines, sides, stations = {}, set(), set(), set()
    for case in cases_for(code.kind, most):
        done = play(code, *case)
        for promise in done.broken:
            fewest.setdefault(promise, len(all_items(case[0])))
        lines.update(done.lines())
        sides.update(done.sides())
        stations.update(done.stations())
    return wrong_verdicts(code, most, fewest) + wrong_uses(code, lines, sides, stations)


def wrong_verdicts(code, most, fewest):
    wrong = []
    for promise in PROMISES:
        case = least_case(code, promise)
        if keeps(code, promise) != (case is None) or keeps(code, promise) != (promise in kept(code)):
            wrong.append((promise, "told in two ways"))
        if case is None:
            if promise in fewest:
                wrong.append((promise, "is broken, not kept", fewest[promise]))
            continue
        many = len(all_items(case[0]))
        if notes_of(code).by_promise[promise][0] != many:
            wrong.append((promise, "told with another number of nodes", case))
        if promise not in play(code, *case).broken:
            wrong.append((promise, "is not broken by", case))
        if fewest.get(promise, many) != many or (many <= most and promise not in fewest):
            wrong.append((promise, "least case", case, fewest.get(promise)))
    return wrong


def wrong_uses(code, lines, sides, stations):
    wrong = []
    told = all_stations(code)
    if not lines <= set(used_lines(code)) or not sides <= set(used_sides(code)) or not stations <= set(told):
        wrong.append(("met, not told", lines - set(used_lines(code)), sides - set(used_sides(code)), stations - set(told)))
    if len(told) != len(set(told)) or list(used_lines(code)) != sorted(set(used_lines(code))):
        wrong.append("told twice")
    if list(used_sides(code)) != sorted(set(used_sides(code))):
        wrong.append("sides told twice")
    for line in range(1, len(code) + 1):
        wrong.extend(wrong_case(code, case_for_line(code, line), line, used_lines(code), "lines"))
        for side in (False, True):
            wrong.extend(wrong_case(code, case_for_side(code, line, side), (line, side), used_sides(code), "sides"))
    for station in told:
        wrong.extend(wrong_case(code, case_for_station(code, station), station, told, "stations"))
    return wrong


def wrong_case(code, case, what, told, method):
    """A case that is told for something that it does not meet, or that lacks."""
    if case is None:
        return [(method, what, "no case")] if what in told else []
    if what in told and what in getattr(play(code, *case), method)():
        return []
    return [(method, what, case)]
