"""Endings: the promises that a play which is done breaks, on the tree with the fewest nodes that fits its world, and
on those on which something is there that was never read.

A fault is a tuple (promise, weight, wants): how many nodes are wanted besides the fewest ones, and what they are.
In a world without wants each part that may be there is left out, and each stretch has no nodes. Whatever is wrong
there is wrong on all trees that fit the world.
"""

from nextcode.cases import ABOVE, FLANK, PART
from nextcode.worlds import (
    ABSENT, AT, GAP, LEFT, MAYBE, NONE, OVER, RIGHT, SAME, THERE, placed_item, slot_of, stretch_of)

# Beyond the ranks of all that is known.
LOW = -1
HIGH = 1000000


class Ending:
    """The parts of a tree from left to right, as they are at the start and as they are met from the root at the end.

    ranks tells the places of items at the start, parts those of subtrees, by their slots, and flanks those of the
    nodes of stretches to the left and to the right of the path through them. An entry of the row at the end is a
    tuple (rank, weight, node, want): weight 0 and no want for what is there for certain; node is the one that holds
    the item now, NONE where it is not known.
    """

    def __init__(self, world):
        self.world = world
        self.ranks = {}
        self.parts = {}
        self.flanks = {}
        self.above = world.top != NONE and world.at_start[slot_of(world.top, OVER)] == MAYBE
        self.count = 0
        self.row = []
        self.met = {}
        self.is_wrong = False
        self.bent = {}
        self.look_back()
        self.look_now()

    def rank(self):
        self.count += 1
        return self.count

    def look_back(self):
        if self.world.top == NONE:
            self.rank_subtree(LEFT)
        else:
            self.rank_node(self.world.top)

    def rank_subtree(self, slot):
        value = self.world.at_start[slot]
        if self.world.place == (GAP, slot // 3, slot % 3):
            self.ranks[placed_item(self.world)] = self.rank()
        if value in (MAYBE, THERE):
            self.parts[slot] = self.rank()
        elif value > NONE:
            self.rank_node(value)
        elif value != NONE:
            left = self.rank()
            self.rank_node(stretch_of(self.world, value)[2])
            self.flanks[value] = (left, self.rank())

    def rank_node(self, node):
        self.rank_subtree(slot_of(node, LEFT))
        self.ranks[node] = self.rank()
        if self.world.place == (AT, node, None):
            self.ranks[placed_item(self.world)] = self.ranks[node]
        self.rank_subtree(slot_of(node, RIGHT))

    def look_now(self):
        root = self.world.now[LEFT]
        if root == SAME and self.world.top != NONE:
            self.meet_all_above()
        elif root == SAME:
            self.meet_subtree(LEFT, NONE)
        elif root != NONE:
            self.meet_node(root, NONE, None)

    def meet_all_above(self):
        """Meets the topmost node from the root, with a greater one above it if there may be nodes there."""
        self.meet_node(self.world.top, NONE, None)
        if self.above:
            self.row.append((HIGH, 1, NONE, (ABOVE, None, LEFT)))

    def meet_subtree(self, slot, over):
        value = self.world.now[slot]
        if value == SAME:
            self.meet_start(slot, over)
        elif value != NONE:
            self.meet_node(value, over, None)

    def meet_start(self, slot, over):
        """Meets what the link leads to, to which nothing was written."""
        value = self.world.at_start[slot]
        if value in (MAYBE, THERE):
            self.met[slot_key(slot)] = True
        if value == MAYBE:
            self.row.append((self.parts[slot], 1, NONE, (PART, slot, None)))
        elif value == THERE:
            self.row.append((self.parts[slot], 0, NONE, None))
        elif value > NONE:
            self.meet_node(value, over, None)
        elif value != NONE:
            self.met[value] = True
            self.meet_flank(value, LEFT)
            self.meet_node(stretch_of(self.world, value)[2], over, value)
            self.meet_flank(value, RIGHT)

    def meet_flank(self, code, side):
        weight = flank_weight(self.world, code, 1 - side)
        if weight is not None:
            self.row.append((self.flanks[code][side], weight, NONE, (FLANK, code, 1 - side)))

    def meet_node(self, node, over, code):
        """Meets a node from the one above it, by a stretch if there is a code for it."""
        if node in self.met:
            self.is_wrong = True
        if self.is_wrong:
            return
        self.met[node] = True
        if self.world.ups:
            self.look_up(node, over, code)
        self.meet_subtree(slot_of(node, LEFT), node)
        self.row.append((self.ranks.get(self.world.holds[node]), 0, node, None))
        self.meet_subtree(slot_of(node, RIGHT), node)

    def look_up(self, node, over, code):
        """Looks whether the up link of a node leads to the one above it, perhaps only if nothing lies between."""
        value = self.world.now[slot_of(node, OVER)]
        was = self.world.at_start[slot_of(node, OVER)]
        if value != SAME:
            if value != over:
                self.is_wrong = True
            elif code is not None:
                self.bent[code] = True
            elif was == MAYBE and over == NONE and self.world.now[LEFT] == SAME:
                self.bent[ABOVE] = True
        elif was == MAYBE:
            self.is_wrong = over != NONE
            if self.world.now[LEFT] != SAME:
                self.bent[ABOVE] = True
        elif was >= NONE:
            self.is_wrong = was != over
        elif code is None:
            self.is_wrong = stretch_of(self.world, was)[0] != over
            self.bent[was] = True


def slot_key(slot):
    """What tells that the part at a slot was met, beside the numbers of nodes and the codes of stretches."""
    return ("slot", slot)


def flank_weight(world, code, step):
    """How many nodes a stretch needs for one at which its path goes by the step, or None if there is none."""
    status = stretch_of(world, code)[3][step][0]
    if status == ABSENT:
        return None
    return 2 if status == THERE else 1
