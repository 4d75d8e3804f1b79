"""Splits: the worlds in place of one in which something is open that has to be known."""

from nextcode.worlds import (
    ABSENT, AT, GAP, LEFT, MAYBE, NONE, NO_NODES, OVER, RIGHT, THERE, WITHIN, add_node, hang, pay, set_stretch, slot_of,
    stretch_of)

# What can be in doubt: whether a link leads to none, what it leads to, or where the key lies.
IS_NONE = "none"
READ = "read"
KEY = "key"


def split_by_doubt(world):
    """The worlds, one for each answer to the doubt."""
    word, slot = world.doubt
    if word == IS_NONE:
        return [with_link(world, slot, NONE), with_link(world, slot, THERE)]
    if word == READ:
        return split_by_reading(world, slot)
    return split_by_key(world)


def with_link(world, slot, value):
    other = world.copy()
    other.at_start[slot] = value
    return other


def split_by_reading(world, slot):
    """The worlds in which the link leads to none or to a node that is known."""
    value = world.at_start[slot]
    if value == MAYBE:
        return [with_link(world, slot, NONE)] + grown(world, slot)
    if value == THERE:
        return grown(world, slot)
    return opened(world, slot, value)


def grown(world, slot):
    """The worlds in which the node at the link is known."""
    node, link = divmod(slot, 3)
    if link == OVER:
        return [grown_above(world, LEFT), grown_above(world, RIGHT)]
    return [grown_below(world, node, link)]


def grown_below(world, over, side):
    other = world.copy()
    node = add_node(other, MAYBE, MAYBE, NONE)
    if over == 0:
        other.at_start[LEFT] = node
    else:
        hang(other, over, side, node, NO_NODES)
    if other.place == (GAP, over, side):
        other.place = (WITHIN, node, None)
    return other


def grown_above(world, side):
    """The world with a node above the topmost one, which hangs on this side of it."""
    other = world.copy()
    node = add_node(other, MAYBE, MAYBE, MAYBE)
    hang(other, node, side, other.top, NO_NODES)
    other.top = node
    return other


def opened(world, slot, code):
    """The worlds in which the first node, or the last one, of a stretch is known, or the stretch has none."""
    found = [closed(world, code)]
    for step in (LEFT, RIGHT):
        if stretch_of(world, code)[3][step][0] != ABSENT:
            found.append(opened_below(world, code, step) if slot % 3 == OVER else opened_above(world, code, step))
    return found


def closed(world, code):
    other = world.copy()
    over, side, under, _ = stretch_of(world, code)
    hang(other, over, side, under, NO_NODES)
    return other


def opened_above(world, code, step):
    """The world in which the topmost node of a stretch is known, from which the path goes on by the step."""
    other = world.copy()
    over, side, under, _ = stretch_of(world, code)
    node = stretch_node(other, code, step)
    hang(other, over, side, node, NO_NODES)
    set_stretch(other, code, node, step, under)
    return other


def opened_below(world, code, step):
    """The world in which the lowest node of a stretch is known, from which the path goes on by the step."""
    other = world.copy()
    over, side, under, _ = stretch_of(world, code)
    node = stretch_node(other, code, step)
    hang(other, node, step, under, NO_NODES)
    set_stretch(other, code, over, side, node)
    return other


def stretch_node(world, code, step):
    """A node of the stretch, not yet linked to those beside it on the path."""
    node = add_node(world, MAYBE, MAYBE, NONE)
    kind = stretch_of(world, code)[3][step]
    world.at_start[slot_of(node, 1 - step)] = kind[0]
    pay(world, node, step, kind)
    return node


def split_by_key(world):
    """The worlds in which the key lies at the node within whose subtree it is, or on one side of it."""
    _, node, _ = world.place
    places = [below(world, node, LEFT), below(world, node, RIGHT)]
    # The key of a new item is that of no other one.
    if world.kind != "put":
        places.append((AT, node, None))
    return [with_place(world, place) for place in places]


def below(world, node, side):
    """The place of a key that lies in the subtree at this link of the node."""
    value = world.at_start[slot_of(node, side)]
    return (GAP, node, side) if value < 0 else (WITHIN, value, None)


def with_place(world, place):
    other = world.copy()
    other.place = place
    return other
