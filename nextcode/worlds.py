"""Worlds: what a play can know of its tree at a place in a code, for trees of every shape at once.

A world knows some nodes, by numbers from 1 on, and of each of their links at the start that it leads to none, to
another node that is known, or to a part of the tree that was not read:

    MAYBE   a subtree that may be there; at the up link of the topmost node: the nodes above it, which may be there
    THERE   the same, but there is at least one node
    a code from FIRST_STRETCH downward: a stretch of the path between two nodes that are known, see below

The links are kept in slots, three for each node: slot 3 * node + LEFT and so on. Node 0 is no node: its left link is
the root, or TOP where a code begins at a node that it is handed and what lies above is not known.

A stretch is a tuple (over, side, under, classes): from the link on this side of the node over, a path of any number
of nodes, none included, leads down to the node under. Each of its nodes has the next one of the path to its left or
to its right; classes tells for both a pair (status, price): the status what its other link leads to, NONE, MAYBE,
THERE, or ABSENT where no round of the loop goes so, and the price how many comparisons its round takes at most, a pair
for nothing at the other link and for something there, -1 where that can not be. If a key is handed, it lies at the
same side of all the nodes of a stretch, or the path goes to the side where it lies at each of them, so that no
comparison of the key with the nodes of the stretch is open.

Each set of trees that fits a world is the set of all trees that fit what was asked on one way of a play, so
everything that is open in a world can be chosen freely.
"""

from nextcode.lines import REGISTERS

LEFT = 0
RIGHT = 1
OVER = 2

NONE = -1
MAYBE = -2
THERE = -3
SAME = -4
TOP = -5
ABSENT = -6
FIRST_STRETCH = -10
NO_PRICE = (-1, -1)
NO_NODES = ((-6, (-1, -1)), (-6, (-1, -1)))

# The number of the node that is handed, that of the node of put, and what stands for a key that is in no node.
HANDED = 1
NEW = 1
KEY_ALONE = 0

# Where the key that is handed, or that of the new node, lies: a place is a tuple (word, node, link).
AT = "at"
GAP = "gap"
WITHIN = "within"


class World:
    """What is known of a tree, and how far a play of a code has come.

    at_start and now hold the slots of all nodes, now SAME where nothing was written. holds tells from which node at
    the start the item of each node is, hung by which link the node hangs: 2 * (node above) + side, or NONE. top is
    the topmost node if nodes above it may be there, place where the key lies: AT the node, in the GAP at a link
    (in it, if it leads to nodes that are not known), or anywhere WITHIN the subtree of the node. Registers are NONE
    or nodes. step is the next step of the code, came how the loop that is played came to `at`, "left", "right" or
    None, and doubt what has to be known for the step. compares counts the comparisons that were made for certain.
    prices holds nodes whose rounds hang on what is beside the path, if this is open: pairs (side, price) of the side
    on which the path goes down and the price as in a class of a stretch.
    """

    def __init__(self, kind, ups):
        self.kind = kind
        self.ups = ups
        self.at_start = [MAYBE, NONE, NONE]
        self.now = [SAME, SAME, SAME]
        self.holds = [0]
        self.hung = [NONE]
        self.stretches = []
        self.top = NONE
        self.place = None
        self.named = {name: NONE for name in REGISTERS}
        self.step = 0
        self.came = None
        self.doubt = None
        self.compares = 0
        self.prices = {}

    def copy(self):
        other = World(self.kind, self.ups)
        other.at_start = self.at_start[:]
        other.now = self.now[:]
        other.holds = self.holds[:]
        other.hung = self.hung[:]
        other.stretches = self.stretches[:]
        other.top = self.top
        other.place = self.place
        other.named = dict(self.named)
        other.step = self.step
        other.came = self.came
        other.compares = self.compares
        other.prices = dict(self.prices)
        return other


def first_world(kind, ups):
    """What is known ahead of a code's first line."""
    world = World(kind, ups)
    world.named["none"] = NONE
    if kind in ("next", "take", "leave"):
        world.at_start[LEFT] = TOP
        world.top = add_node(world, MAYBE, MAYBE, MAYBE)
        world.named["at"] = world.top
    elif kind == "put":
        world.named["new"] = add_node(world, NONE, NONE, NONE)
    if kind in ("find", "after", "drop", "put"):
        world.place = (GAP, 0, LEFT)
    return world


def placed_item(world):
    """The number under which the item is compared whose place is asked: the new one, or a key alone."""
    return NEW if world.kind == "put" else KEY_ALONE


def slot_of(node, link):
    return 3 * node + link


def add_node(world, left, right, up):
    """Makes one more node known, with these links, and returns its number."""
    node = len(world.holds)
    world.at_start.extend([left, right, up])
    world.now.extend([SAME, SAME, SAME])
    world.holds.append(node)
    world.hung.append(NONE)
    return node


def hang(world, over, side, under, classes):
    """Lets a node hang below another one, by a stretch if there are classes of nodes for it."""
    below, above = under, over
    if classes != NO_NODES:
        below = above = FIRST_STRETCH - len(world.stretches)
        world.stretches.append((over, side, under, classes))
    world.at_start[slot_of(over, side)] = below
    world.at_start[slot_of(under, OVER)] = above
    world.hung[under] = 2 * over + side


def stretch_of(world, code):
    return world.stretches[FIRST_STRETCH - code]


def pay(world, node, side, kind):
    """Takes down what the round at a node of a class costs from which the path goes down on the side."""
    status, price = kind
    if status == MAYBE and price[0] != price[1]:
        world.prices[node] = (side, price)
    else:
        world.compares += max(price)


def set_stretch(world, code, over, side, under):
    """The stretch lies between these two nodes now."""
    classes = stretch_of(world, code)[3]
    world.stretches[FIRST_STRETCH - code] = (over, side, under, classes)
    world.at_start[slot_of(over, side)] = code
    world.at_start[slot_of(under, OVER)] = code
    world.hung[under] = 2 * over + side


def least_nodes(world):
    """How many nodes the tree has at the start at least."""
    many = len(world.holds) - 1 + world.at_start.count(THERE)
    return many - 1 if world.kind == "put" else many


def node_within(world, node, over):
    """Whether a node is another one or hangs below it."""
    while node != over:
        if world.hung[node] == NONE:
            return False
        node = world.hung[node] // 2
    return True


def order_of(world, one, other):
    """Below 0 if the node one lies to the left of the other one at the start, above 0 if to its right."""
    sides = {one: NONE}
    node = one
    while world.hung[node] != NONE:
        node, side = divmod(world.hung[node], 2)
        sides[node] = side
    node, came = other, NONE
    while node not in sides:
        node, came = divmod(world.hung[node], 2)
    if node == one:
        return -1 if came == RIGHT else 1
    return -1 if sides[node] == LEFT else 1


def sign_of_key(world, node):
    """-1, 0 or 1 as the key lies below, at or above that of the node at the start; None if this is open."""
    word, where, link = world.place
    if word == WITHIN and node_within(world, node, where):
        return None
    if where != node:
        return order_of(world, where, node)
    if word == AT:
        return 0
    return -1 if link == LEFT else 1
