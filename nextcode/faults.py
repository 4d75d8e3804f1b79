"""Faults: what a play that is done breaks on some tree that fits its world, see the module endings."""

from nextcode.cases import ABOVE, FLANK, PART
from nextcode.endings import LOW, Ending, flank_weight, slot_key
from nextcode.promises import CHANGING, REFILLED, TELLING
from nextcode.splits import grown, split_by_key, with_link
from nextcode.worlds import (
    AT, FIRST_STRETCH, HANDED, LEFT, MAYBE, NONE, OVER, RIGHT, SAME, THERE, TOP, WITHIN, placed_item, slot_of,
    stretch_of)


def settled_worlds(world):
    """The worlds in place of one at the end of a play, in each of which it is known where the key lies.

    If it lies in a part that was never read, it is enough to look at this part with no node, and with one.
    """
    if world.top != NONE and world.at_start[slot_of(world.top, OVER)] == THERE:
        return grown(world, slot_of(world.top, OVER))
    if world.place is None:
        return [world]
    found = []
    waiting = [world]
    while waiting:
        one = waiting.pop()
        word, node, link = one.place
        if word == WITHIN:
            waiting.extend(split_by_key(one))
        elif word == AT or one.at_start[slot_of(node, link)] == NONE:
            found.append(one)
        else:
            found.extend(settled_in_part(one, slot_of(node, link)))
    return found


def settled_in_part(world, slot):
    """The worlds in which the part that the key lies in has no node, or one."""
    found = [with_link(world, slot, NONE)] if world.at_start[slot] == MAYBE else []
    for one in split_by_key(grown(world, slot)[0]):
        word, node, link = one.place
        found.append(one if word == AT else with_link(one, slot_of(node, link), NONE))
    return found


def faults_of(world):
    """The lightest faults of a play that is done, as far as they matter."""
    ending = Ending(world)
    if ending.is_wrong or not ascends(ending.row):
        return [("tree", 0, ())]
    return faults_of_tree(ending) + faults_of_items(ending)


def ascends(row):
    """Whether all that is there for certain stands in order."""
    ranks = [rank for rank, weight, _, _ in row if weight == 0]
    return all([low < high for low, high in zip(ranks, ranks[1:])])


def faults_of_tree(ending):
    """What makes a tree wrong that is right with the fewest nodes: a node where an up link was set as if there were
    none, or one out of order, or two of which one is."""
    found = []
    for what in ending.bent:
        weight, want = lightest_in(ending.world, what)
        found.append(("tree", weight, (want,)))
    misplaced = misplaced_in(ending.row)
    some = [entry for entry in ending.row if entry[1] > 0]
    for at, (rank, weight, _, want) in enumerate(some):
        if want in misplaced:
            found.append(("tree", weight, (want,)))
        for other_rank, other_weight, _, other_want in some[at + 1:]:
            if rank > other_rank:
                found.append(("tree", weight + other_weight, (want, other_want)))
    return found


def lightest_in(world, what):
    """The weight of a node above the topmost one, or in a stretch, and the want of it."""
    if what == ABOVE:
        return 1, (ABOVE, None, LEFT)
    weights = [(flank_weight(world, what, step), step) for step in (LEFT, RIGHT)]
    weight, step = min([pair for pair in weights if pair[0] is not None])
    return weight, (FLANK, what, step)


def misplaced_in(row):
    """The wants, as keys of a dict, of what stands out of order beside something that is there for certain."""
    found = {}
    low = LOW
    waiting = []
    for rank, weight, _, want in row:
        if weight == 0:
            for open_rank, open_want in waiting:
                if open_rank > rank:
                    found[open_want] = True
            low, waiting = rank, []
        else:
            waiting.append((rank, want))
            if rank < low:
                found[want] = True
    return found


def faults_of_items(ending):
    """What is broken on trees that are right at the end."""
    if not are_owed(ending):
        return [("items", 0, ())]
    found = faults_of_loss(ending)
    if ending.world.kind in TELLING:
        found.extend(faults_of_out(ending))
    if has_moved(ending):
        found.append(("steady", 0, ()))
    if has_refilled(ending):
        found.append((REFILLED, 0, ()))
    return found


def are_owed(ending):
    """Whether the tree with the fewest nodes has the items that are owed, and nothing else was changed if nothing is
    to be changed."""
    world = ending.world
    if world.kind not in CHANGING:
        is_same = all([value == SAME or value == least_start(world, slot) for slot, value in enumerate(world.now)])
        return is_same and world.holds == list(range(len(world.holds)))
    if any([world.at_start[slot] == THERE and slot_key(slot) not in ending.met for slot in ending.parts]):
        return False
    held = [world.holds[node] for _, _, node, _ in ending.row if node != NONE]
    return sorted(held) == owed_items(world)


def least_start(world, slot):
    """Where a link leads at the start in the tree with the fewest nodes; THERE for a node that is not known."""
    value = world.at_start[slot]
    if value == TOP:
        return world.top
    if value == MAYBE:
        return NONE
    if value <= FIRST_STRETCH:
        over, _, under, _ = stretch_of(world, value)
        return over if slot % 3 == OVER else under
    return value


def owed_items(world):
    """The items of known nodes that are owed by a code that changes the tree, by these nodes."""
    gone = taken_node(world)
    return [node for node in range(1, len(world.holds)) if node != gone]


def taken_node(world):
    """The node whose item is to be taken out, or NONE."""
    if world.kind in ("take", "leave"):
        return HANDED
    if world.kind == "drop" and world.place[0] == AT:
        return world.place[1]
    return NONE


def faults_of_loss(ending):
    """What is not met at the end, if it is there."""
    world = ending.world
    found = []
    for slot in ending.parts:
        if slot_key(slot) not in ending.met:
            found.append(("items", 1, ((PART, slot, None),)))
    lost = [code for code in ending.flanks if code not in ending.met]
    if ending.above and world.now[LEFT] != SAME:
        lost.append(ABOVE)
    for what in lost:
        # Where it is bent, the tree is not right with it.
        if what not in ending.bent:
            weight, want = lightest_in(world, what)
            found.append(("items", weight, (want,)))
    return found


def faults_of_out(ending):
    """The register out does not tell the owed node, or would not if a part that was never read were there."""
    world = ending.world
    out = world.named["out"]
    if world.kind == "find":
        owed = world.place[1] if world.place[0] == AT else NONE
        return [] if out == owed else [("out", 0, ())]
    bound = bound_of(ending)
    misplaced = misplaced_in(ending.row)
    found = []
    for rank, weight, node, want in ending.row:
        if rank > bound and weight == 0:
            return found if node == out != NONE else [("out", 0, ())]
        if rank > bound and want not in misplaced and not is_bent(ending, want):
            found.append(("out", weight, (want,)))
    return found if out == NONE else [("out", 0, ())]


def bound_of(ending):
    """The rank behind which the owed node stands first."""
    kind = ending.world.kind
    if kind == "first":
        return LOW - 1
    return ending.ranks[placed_item(ending.world) if kind == "after" else HANDED]


def is_bent(ending, want):
    return want[0] in ending.bent or want[1] in ending.bent


def has_moved(ending):
    """Whether an item that was there before is held by another node; the new one is not, where the owed ones are."""
    return any([node != NONE and ending.world.holds[node] != node for _, _, node, _ in ending.row])


def has_refilled(ending):
    """Whether a node whose item was not taken is in the tree with another one."""
    free = (NONE, taken_node(ending.world))
    return any([node not in free and ending.world.holds[node] != node for _, _, node, _ in ending.row])
