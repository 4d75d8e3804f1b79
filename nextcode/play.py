"""Plays of codes on told trees."""

from nextcode.errors import BadHanded, BadTree
from nextcode.machine import DONE, Machine
from nextcode.promises import CHANGING, broken_by, right_row
from nextcode.shapes import nodes_down, told_tree, ways_in
from nextcode.trees import all_items, is_integer, is_item, is_told, root_of


def play(code, tree, handed=None):
    """Plays a code on a case."""
    if not is_told(tree):
        raise BadTree(tree)
    holds = {number: item for number, item in enumerate(all_items(tree))}
    if not can_be_handed(code.kind, holds, handed):
        raise BadHanded(handed)
    return Play(Machine(code, ways_in(tree, code.ups), holds, root_of(tree), handed, len(holds)))


def can_be_handed(kind, holds, handed):
    """Whether a value of any kind can be handed to a deed of this kind on a tree with these nodes and items."""
    if kind == "first":
        return handed is None
    if kind == "put":
        return is_item(handed) and all([handed[0] != key and handed[1] != mark for key, mark in holds.values()])
    if kind in ("next", "take", "leave"):
        return is_integer(handed) and handed in holds
    return is_integer(handed)


class Play:
    """A play that is over, made from the machine that played it."""

    def __init__(self, machine):
        self.ended = machine.ended
        self.out = machine.named["out"]
        self.root = machine.root
        self.compares = machine.compares
        self.broken = broken_by(machine)
        self._items = dict(machine.holds)
        self._row = right_row(machine) if machine.ended == DONE else None
        self._ways = cleared_ways(machine)
        self._lines = tuple(sorted(list(machine.played)))
        self._sides = tuple(sorted(list(machine.answered)))
        self._stations = tuple(machine.met)

    def links(self):
        """A dict from the numbers of all nodes to (left, right, up)."""
        return {node: tuple(beside) for node, beside in self._ways.items()}

    def held(self):
        """A dict from the numbers of all nodes to their items."""
        return dict(self._items)

    def told(self):
        """The told tree that is left, or None if there is no right one, or one without nodes."""
        if not self._row:
            return None
        return told_tree(self._ways, self._items, self.root)

    def lines(self):
        """The numbers of the lines that were played, ascending."""
        return self._lines

    def sides(self):
        """The pairs (line, side) of the tests that were asked, ascending."""
        return self._sides

    def stations(self):
        """The stations in the order in which they were met."""
        return self._stations


def cleared_ways(machine):
    """The links at the end, those of nodes that are not met any more without anything behind a deed that is done."""
    ways = {node: list(beside) for node, beside in machine.ways.items()}
    if machine.ended == DONE and machine.code.kind in CHANGING:
        met = {node: True for node in nodes_down(ways, machine.root)}
        for node in machine.ways:
            if node not in met:
                ways[node] = [None, None, None]
    return ways
