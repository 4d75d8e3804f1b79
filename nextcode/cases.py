"""Cases: the tree with the fewest nodes that fits a world, and what is handed with it."""

from nextcode.splits import grown_above, grown_below, opened_above, split_by_key
from nextcode.worlds import (
    AT, FIRST_STRETCH, GAP, HANDED, LEFT, NONE, OVER, RIGHT, THERE, WITHIN, slot_of, stretch_of)

# What can be wanted of a world, behind which the rest of it is open as before.
PART = "part"
FLANK = "flank"
ABOVE = "above"


def with_want(world, want):
    """The world in which a part has a node: one at the link of a slot, one of a stretch, or one above all others."""
    word, where, side = want
    if word == PART:
        return grown_below(world, where // 3, where % 3)
    if word == FLANK:
        return opened_above(world, where, side)
    return grown_above(world, side)


class Case:
    """A told tree under way: keys count the items from the least one on, and the key that is handed among them."""

    def __init__(self, world):
        self.world = world
        self.count = 0
        self.nodes = 0
        self.key = None
        self.number = None

    def item(self):
        self.count += 1
        self.nodes += 1
        return (self.count, self.count)

    def place_key(self):
        self.count += 1
        self.key = self.count

    def subtree(self, slot):
        """The told tree at a link."""
        value = self.world.at_start[slot]
        if self.world.place == (GAP, slot // 3, slot % 3):
            self.place_key()
        if value == THERE:
            return (None, self.item(), None)
        if value <= FIRST_STRETCH:
            value = stretch_of(self.world, value)[2]
        return self.node(value) if value > NONE else None

    def node(self, node):
        left = self.subtree(slot_of(node, LEFT))
        if node == HANDED:
            self.number = self.nodes
        item = self.item()
        if self.world.place == (AT, node, None):
            self.key = item[0]
        return (left, item, self.subtree(slot_of(node, RIGHT)))

    def whole(self):
        """The told tree of the whole world."""
        if self.world.top == NONE:
            return self.subtree(LEFT)
        tree = self.node(self.world.top)
        if self.world.at_start[slot_of(self.world.top, OVER)] == THERE:
            return (tree, self.item(), None)
        return tree


def case_of(world, wants):
    """A case (tree, handed) of a world with these wants, with the fewest nodes."""
    for want in wants:
        world = with_want(world, want)
    while world.place is not None and world.place[0] == WITHIN:
        world = split_by_key(world)[0]
    case = Case(world)
    tree = case.whole()
    if world.top != NONE:
        return (tree, case.number)
    if world.kind == "put":
        return (tree, (case.key, case.key))
    return (tree, case.key)
