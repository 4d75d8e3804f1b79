"""What a world answers to the parts of tests, and where the links in it lead."""

from nextcode.lines import PLACES
from nextcode.rounds import BEYOND, UNKNOWN
from nextcode.splits import IS_NONE, KEY, READ
from nextcode.worlds import (
    FIRST_STRETCH, MAYBE, NONE, OVER, SAME, THERE, TOP, order_of, placed_item, sign_of_key, slot_of, stretch_of)


def value_of(world, term):
    """What a term tells, a node, NONE or a part that was not read, or BEYOND; and the slot of its link."""
    name, link = term
    if name == "root":
        return led_to(world, 0)
    node = world.named[name]
    if link is None:
        return node, None
    if node == NONE:
        return BEYOND, None
    return led_to(world, slot_of(node, PLACES[link]))


def led_to(world, slot):
    value = world.now[slot]
    return (world.at_start[slot] if value == SAME else value), slot


def in_doubt(world, word, slot):
    world.doubt = (word, slot)
    return UNKNOWN


def ask(world, asked):
    """What a part of a test answers."""
    if asked[0] == "same":
        return are_same(world, asked[1], asked[2])
    if asked[0] == "from":
        return world.came == asked[1]
    answer = is_key_of(world, asked[1]) if asked[0] == "equal" else is_less(world, asked[1], asked[2])
    if answer is True or answer is False:
        world.compares += 1
    return answer


def item_of(world, name):
    """The item that a node holds, by the node that held it at the start; the key's own number for the key."""
    if name == "key":
        return placed_item(world)
    node = world.named[name]
    return BEYOND if node == NONE else world.holds[node]


def is_key_of(world, name):
    item = item_of(world, name)
    if item == BEYOND:
        return BEYOND
    sign = sign_of_key(world, item)
    return in_doubt(world, KEY, None) if sign is None else sign == 0


def is_less(world, one, other):
    first = item_of(world, one)
    second = item_of(world, other)
    if first == BEYOND or second == BEYOND:
        return BEYOND
    if first == second:
        return False
    if world.place is None or placed_item(world) not in (first, second):
        return order_of(world, first, second) < 0
    is_first = first == placed_item(world)
    sign = sign_of_key(world, second if is_first else first)
    if sign is None:
        return in_doubt(world, KEY, None)
    return sign < 0 if is_first else sign > 0


def are_same(world, one, other):
    """Whether two terms tell the same node, or none both."""
    first, slot = value_of(world, one)
    second, place = value_of(world, other)
    if first == BEYOND or second == BEYOND:
        return BEYOND
    if first == TOP:
        return is_root(world, second, place)
    if second == TOP:
        return is_root(world, first, slot)
    if first >= NONE and second >= NONE:
        return first == second
    if slot is not None and slot == place:
        return True
    if first >= NONE:
        return is_part_same(world, second, place, first)
    return is_part_same(world, first, slot, second)


def is_part_same(world, part, slot, other):
    """Whether a link to a part that was not read tells the same as what is other than this link."""
    if part == MAYBE and other in (NONE, MAYBE):
        return in_doubt(world, IS_NONE, slot)
    if part in (MAYBE, THERE):
        # A node that is not known is none of those that are, and two links never lead to the same subtree.
        return False
    over, _, under, _ = stretch_of(world, part)
    if other == part or other == (over if slot % 3 == OVER else under):
        return in_doubt(world, READ, slot)
    return False


def is_root(world, value, slot):
    """Whether what a term tells is the root, where nothing was written to it and nodes may be above the topmost."""
    up = slot_of(world.top, OVER)
    if value == world.top:
        if world.at_start[up] == MAYBE:
            return in_doubt(world, IS_NONE, up)
        return world.at_start[up] == NONE
    is_above = slot == up or (value <= FIRST_STRETCH and stretch_of(world, value)[0] == world.top)
    if value < NONE and slot % 3 == OVER and is_above:
        return in_doubt(world, READ, slot)
    return False
