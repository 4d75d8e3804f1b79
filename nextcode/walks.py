"""Walks: which ways of taking items out go together with which ways of going on, for walkers that stand in the tree.

If each code keeps what is wanted of it alone, a step goes wrong only behind a play that moved the item which the
walker told to another node: always if nothing finds it there, and otherwise if the walker's node is still in the
tree, as then the code goes on from another item.
"""

from nextcode.errors import BadKind, OtherUps
from nextcode.play import play
from nextcode.promises import REFILLED
from nextcode.shapes import nodes_down
from nextcode.trees import all_items
from nextcode.verdicts import case_against, keeps

TAKING = ("inside", "ends", "tree", "items")
GOING = ("inside", "ends", "tree", "items", "out")


def together(taker, goer, finder=None):
    """Whether a code for take or drop, one for next and one for after, or None, go together."""
    check_kinds(taker, goer, finder)
    return are_right_alone(taker, goer, finder) and case_between(taker, finder) is None


def bad_walk(taker, goer, finder=None):
    """None, or (tree, walker, handed): a play of the taker behind which the step of a walker at this node goes wrong,
    for codes that are right alone."""
    check_kinds(taker, goer, finder)
    case = case_between(taker, finder) if are_right_alone(taker, goer, finder) else None
    if case is None:
        return None
    tree, handed = case
    return (tree, walker_in(tree, play(taker, tree, handed), finder), handed)


def check_kinds(taker, goer, finder):
    if taker.kind != "take" and taker.kind != "drop":
        raise BadKind(taker.kind)
    if goer.kind != "next":
        raise BadKind(goer.kind)
    if finder is not None and finder.kind != "after":
        raise BadKind(finder.kind)
    # Codes for next are for trees with ups alone.
    if not taker.ups or (finder is not None and not finder.ups):
        raise OtherUps()


def are_right_alone(taker, goer, finder):
    """Whether each code keeps what is wanted of it alone."""
    is_right = keep_all(taker, TAKING) and keep_all(goer, GOING)
    return is_right and (finder is None or keep_all(finder, GOING))


def keep_all(code, promises):
    return all([keeps(code, promise) for promise in promises])


def case_between(taker, finder):
    """A case in whose play an item moves so that a step goes wrong, or None."""
    return case_against(taker, "steady" if finder is None else REFILLED)


def walker_in(tree, done, finder):
    """A node whose item was moved by the play; one that is still in the tree, if there is a finder for others."""
    held = done.held()
    left = {node: True for node in nodes_down(done.links(), done.root)}
    places = {held[node]: node for node in left}
    for node, item in enumerate(all_items(tree)):
        if item in places and places[item] != node and (finder is None or node in left):
            return node
    return None
