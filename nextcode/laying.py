"""Laying plans: the worlds behind a loop that went on over nodes of which nothing was known."""

from nextcode.lines import KEPT
from nextcode.worlds import AT, GAP, LEFT, MAYBE, NONE, OVER, RIGHT, WITHIN, add_node, hang, pay, slot_of


def lay(world, plan, slot, is_up):
    """The world in which a plan was played from the link of this slot on."""
    other = world.copy()
    nodes, end = plan
    node, side = divmod(slot, 3)
    for classes, sign, turn, kind, bits in nodes:
        if is_up:
            node = lay_over(other, node, turn, classes, kind[0])
        else:
            node = lay_under(other, node, side, classes, sign)
            other.at_start[slot_of(node, 1 - turn)] = kind[0]
            side = turn
        pay(other, node, turn, kind)
        keep(other, bits, node)
    lay_end(other, end, node, side, is_up)
    return other


def lay_under(world, over, side, classes, sign):
    """Makes a node known below another one; sign is None also where the key was not asked."""
    node = add_node(world, MAYBE, MAYBE, NONE)
    hang(world, over, side, node, classes)
    if world.place == (GAP, over, side):
        world.place = place_by(sign, node)
    return node


def place_by(sign, node):
    """The place of a key that lies within the subtree of a node and has the sign to it."""
    if sign is None:
        return (WITHIN, node, None)
    if sign == 0:
        return (AT, node, None)
    return (GAP, node, LEFT if sign < 0 else RIGHT)


def lay_over(world, under, side, classes, beside):
    """Makes a node known above the topmost one, which hangs on this side of it."""
    node = add_node(world, MAYBE, MAYBE, MAYBE)
    world.at_start[slot_of(node, 1 - side)] = beside
    hang(world, node, side, under, classes)
    world.top = node
    return node


def lay_end(world, end, node, side, is_up):
    if end[0] == "none":
        world.at_start[slot_of(node, OVER if is_up else side)] = NONE
        world.named["at"] = NONE
        keep(world, end[1], NONE)
        return
    _, classes, left, right, up, sign, came, bits, cost = end
    world.compares += cost
    if is_up:
        last = lay_over(world, node, came, classes, right if came == LEFT else left)
        world.at_start[slot_of(last, OVER)] = up
    else:
        last = lay_under(world, node, side, classes, sign)
        world.at_start[slot_of(last, LEFT)] = left
        world.at_start[slot_of(last, RIGHT)] = right
    world.named["at"] = last
    keep(world, bits, last)


def keep(world, bits, node):
    for number, name in enumerate(KEPT):
        if bits & (1 << number):
            world.named[name] = node
