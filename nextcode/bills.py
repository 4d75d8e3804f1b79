"""Bills: how many comparisons the plays in a world make, for trees of any height.

A bill is a tuple (base, parts): base counts the comparisons that are made however long the stretches are. All
stretches of a world lie on one path, one below the other; parts holds for the nodes above all of them, and then for
each stretch and all between it and the next one, a pair (cost, depth): how many comparisons each node of the stretch
makes at most, and how deep the tree is there if no stretch has nodes.

Each row of a stretch's rounds is that of some tree, so that all of its nodes can be such as cost the most.
"""

from nextcode.worlds import FIRST_STRETCH, LEFT, MAYBE, NONE, OVER, RIGHT, THERE, slot_of, stretch_of


def bills_of(world):
    """The bills of a world, none where no comparison is made."""
    bill = Bill(world)
    found = [(bill.base, tuple(bill.parts))]
    if bill.choice is not None:
        more, level, depth = bill.choice
        parts = list(bill.parts)
        parts[level] = (parts[level][0], max(parts[level][1], depth))
        found.append((bill.base + more, tuple(parts)))
    return [(base, parts) for base, parts in found if base > 0 or any([cost > 0 for cost, depth in parts])]


class Bill:
    """A bill under way. choice is None, or what more a node costs that is the last one of its path, and how deep the
    tree is with something beside it there: (more, level, depth)."""

    def __init__(self, world):
        self.world = world
        self.base = world.compares
        self.parts = [(0, 0)]
        self.choice = None
        if world.top == NONE:
            self.meet_all(world.at_start[LEFT], 1)
        else:
            self.meet_all(world.top, 2 if world.at_start[slot_of(world.top, OVER)] == THERE else 1)

    def meet_all(self, value, depth):
        """Meets all that is there for certain, from what a link leads to downward."""
        waiting = [(value, depth, 0)]
        while waiting:
            value, depth, level = waiting.pop()
            if value <= FIRST_STRETCH:
                value = self.under_stretch(value)
                level += 1
            if value > NONE or value == THERE:
                cost, deepest = self.parts[level]
                self.parts[level] = (cost, max(deepest, depth))
            if value > NONE:
                self.pay(value, depth, level)
                for link in (LEFT, RIGHT):
                    waiting.append((self.world.at_start[slot_of(value, link)], depth + 1, level))

    def under_stretch(self, code):
        """The node below a stretch, which is taken down as the next part."""
        _, _, under, classes = stretch_of(self.world, code)
        self.parts.append((max([max(price) for status, price in classes]), 0))
        return under

    def pay(self, node, depth, level):
        """Adds what the round at a node costs that hangs on what is beside the path, if this was open."""
        if node not in self.world.prices:
            return
        side, price = self.world.prices[node]
        beside = self.world.at_start[slot_of(node, 1 - side)]
        if beside == NONE:
            self.base += price[0]
        elif beside != MAYBE:
            self.base += price[1]
        elif self.world.at_start[slot_of(node, side)] != NONE:
            # Something beside the path makes no tree higher whose path goes on there.
            self.base += max(price)
        else:
            self.base += price[0]
            if price[1] > price[0]:
                self.choice = (price[1] - price[0], level, depth + 1)


def cost_at(bill, n):
    """The most comparisons of a bill on trees whose height is at most n; 0 where there is no such tree."""
    total, parts = bill
    rooms = rooms_in(parts, n)
    if rooms[0] < 0:
        return 0
    rooms[0] = 0
    cost = 0
    for level in range(len(parts) - 1, 0, -1):
        # Nodes for which there is no room higher up can be those of any stretch from here on.
        cost = max(cost, parts[level][0])
        total += cost * (rooms[level] - rooms[level - 1])
    return total


def rooms_in(parts, n):
    """For each part how many nodes the stretches down to it can have together."""
    rooms = [n - depth for cost, depth in parts]
    for level in range(len(parts) - 2, -1, -1):
        rooms[level] = min(rooms[level], rooms[level + 1])
    return rooms
