"""Plans: all ways in which a loop can go on over nodes of which nothing is known, and come to an end.

A plan is a tuple (nodes, end). Only some nodes of the path are told by themselves, in the order in which the loop
comes to them: those that a register holds behind the loop, the one at which the loop leaves the side where the key
lies, and the last one. A node is a tuple (classes, sign, side, class, bits): the classes of the stretch ahead of it,
how the key stands to it, on which side of it the path goes down, its own class, which tells what its other link leads
to, and the registers that hold it. The end is one of

    ("node", classes, left, right, up, sign, side, bits, cost)    a node, with its links as far as they were asked, and
                                                                  how many comparisons its round takes
    ("none", bits)                                                behind the last node: `at` is none
"""

from nextcode.fresh import class_of, status_of
from nextcode.lines import PLACES
from nextcode.worlds import LEFT, NONE, NO_NODES, RIGHT, THERE


def plans_of(walk, region, ahead, action, bits):
    """All plans that begin at a link in a region and end by the action, as far as they matter to the registers of the
    bits; ahead is what the link leads to."""
    asked = (region, ahead, action, bits)
    if asked not in walk.plans:
        walk.plans[asked] = find_plans(walk, region, ahead, action, bits)
    return walk.plans[asked]


def find_plans(walk, region, ahead, action, bits):
    found = {}
    # The registers that are settled from the start keep no node of the walk.
    for settled in parts_of(bits):
        rest = bits & ~settled
        if ahead != THERE and ends_nowhere(walk, action, settled, rest):
            found[((), ("none", rest))] = True
        if ahead != NONE:
            Planner(walk, action, found).go_on(region, settled, rest, ())
    return list(found)


def parts_of(bits):
    """All numbers with some of the bits, from 0 on."""
    found = [0]
    bit = 1
    while bit <= bits:
        if bits & bit:
            found = found + [part | bit for part in found]
        bit = bit * 2
    return found


def ends_nowhere(walk, action, settled, rest):
    """Whether the round where `at` is none ends so, keeps none of those that are settled, and all of the rest."""
    told = walk.nowhere
    return told.action == action and told.bits & settled == 0 and rest & ~told.bits == 0


def classes_of(walk, region, settled):
    """The classes of the nodes of a stretch that stays in the region and is kept by none of those settled."""
    _, goes = walk.table(region)
    able = [go for go in goes if go.region == region and go.bits & settled == 0 and go.ahead is not False]
    return tuple([class_of([go for go in able if go.side == side]) for side in (LEFT, RIGHT)])


class Planner:
    """A search for plans that end by an action."""

    def __init__(self, walk, action, found):
        self.walk = walk
        self.action = action
        self.found = found

    def go_on(self, region, settled, rest, nodes):
        """Finds the plans that begin with the nodes; the registers that are settled keep no other node, the rest do."""
        classes = classes_of(self.walk, region, settled)
        told_rounds, goes = self.walk.table(region)
        for told in told_rounds:
            if told.action == self.action and told.bits & settled == 0 and rest & ~told.bits == 0:
                self.found[(nodes, end_at(told.facts, classes, rest, told.cost))] = True
        able = [go for go in goes if go.bits & settled == 0]
        for sign, side in turns_of(able):
            same = [go for go in able if go.sign == sign and go.side == side]
            for group in parts_of(rest):
                chosen = [go for go in same if group & ~go.bits == 0]
                if chosen:
                    self.go_by(chosen, classes, group, region, settled, rest, nodes)

    def go_by(self, chosen, classes, group, region, settled, rest, nodes):
        """Finds the plans that go on with a node, by one of the goes chosen, which the group keeps last."""
        sign, side, behind = chosen[0].sign, chosen[0].side, chosen[0].region
        through = [go for go in chosen if go.ahead is not False]
        if through and (group or behind != region):
            node = (classes, sign, side, class_of(through), group)
            self.go_on(behind, settled | group, rest & ~group, nodes + (node,))
        last = [go for go in chosen if go.ahead is not True]
        if last and ends_nowhere(self.walk, self.action, settled | group, rest & ~group):
            node = (classes, sign, side, class_of(last), group)
            self.found[(nodes + (node,), ("none", rest & ~group))] = True


def turns_of(goes):
    """The pairs (sign, side) of some goes, each once."""
    found = {}
    for go in goes:
        found[(go.sign, go.side)] = True
    return list(found)


def end_at(facts, classes, bits, cost):
    """The end of a plan at a node with these facts."""
    left, right, up = [status_of(facts.get(link)) for link in ("left", "right", "up")]
    side = None if facts["from"] is None else PLACES[facts["from"]]
    return ("node", classes, left, right, up, facts.get("key"), side, bits, cost)


def chain_of(goes):
    """The nodes of a plan with such goes and no other ones."""
    return tuple([(NO_NODES, go.sign, go.side, class_of([go]), 0) for go in goes])


def chain_plan(goes):
    """The plan with such goes behind which `at` is none."""
    return (chain_of(goes), ("none", 0))


def facts_plan(goes, facts):
    """The plan with such goes behind which a node with these facts comes."""
    return (chain_of(goes), end_at(facts, NO_NODES, 0, 0))
