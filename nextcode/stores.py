"""Stores: a tree that is changed by deeds, which can be taken back, and walkers that stand in it."""

from nextcode.codes import Code
from nextcode.errors import BadHanded, BadName, BadUps, NoDeed, NothingToUndo, NoWalker
from nextcode.machine import DONE, Machine
from nextcode.play import Play, can_be_handed
from nextcode.promises import right_row
from nextcode.shapes import told_tree, ways_in
from nextcode.trees import all_items, is_integer, root_of


class Store:
    """A tree of numbered nodes, the codes of the deeds that it can be played, and its walkers.

    The nodes of the present tree have their links in one dict and their items in another. The next new node gets the
    number fresh. A walker is a pair (node, item): where it stands, or None, and the item that it told last. The past
    holds what each deed changed that can be taken back.
    """

    def __init__(self, ups, codes, tree=None):
        check_codes(ups, codes)
        # For what is no told tree the error is raised here.
        items = all_items(tree)
        self.ups = ups
        self._codes = dict(codes)
        self._holds = {number: item for number, item in enumerate(items)}
        self._ways = ways_in(tree, ups)
        self._root = root_of(tree)
        self._fresh = len(self._holds)
        self._walkers = {}
        self._past = []

    def __len__(self):
        return len(self._holds)

    def do(self, name, handed=None):
        """Plays a deed on the present tree, which becomes what the play leaves if this is a right tree."""
        code = self._code(name, None)
        if not can_be_handed(code.kind, self._holds, handed):
            raise BadHanded(handed)
        machine = self._machine(code, handed)
        row = right_row(machine) if machine.ended == DONE else None
        if row is not None:
            self._take_over(machine, row)
        return Play(machine)

    def present(self):
        """The told tree."""
        return told_tree(self._ways, self._holds, self._root)

    def numbered(self):
        """A dict from the numbers of the nodes of the present tree to their items."""
        return dict(self._holds)

    def walk(self, name, node):
        """Lets a walker of this name stand at a node of the present tree."""
        if type(name) != str:
            raise BadName(name)
        if not is_integer(node) or node not in self._holds:
            raise BadHanded(node)
        self._walkers[name] = (node, self._holds[node])

    def walker(self, name):
        """The node at which a walker stands, None at its end, and the item that it told last."""
        if type(name) != str or name not in self._walkers:
            raise NoWalker(name)
        return self._walkers[name]

    def go_on(self, name, deed, other=None):
        """Lets a walker go on by a deed, or by another one where its node is not in the tree; None at its end."""
        node, item = self.walker(name)
        code, handed = self._code(deed, "next"), node
        if node is None:
            return None
        if node not in self._holds:
            code, handed = self._code(other, "after"), item[0]
        machine = self._machine(code, handed)
        if machine.ended == DONE:
            found = machine.named["out"]
            self._walkers[name] = (found, item if found is None else self._holds[found])
        return Play(machine)

    def undo(self):
        """Takes back the last deed that is not taken back yet."""
        if not self._past:
            raise NothingToUndo()
        root, before, added = self._past.pop()
        self._root = root
        for node in added:
            del self._ways[node]
            del self._holds[node]
        for node, (beside, item) in before.items():
            self._ways[node] = beside
            self._holds[node] = item

    def undoable(self):
        """How many deeds can be taken back."""
        return len(self._past)

    def _code(self, name, kind):
        """The code of a deed, which is of the kind if one is given."""
        if type(name) != str or name not in self._codes:
            raise NoDeed(name)
        code = self._codes[name]
        if kind is not None and code.kind != kind:
            raise NoDeed(name)
        return code

    def _machine(self, code, handed):
        """The play of a code on the present tree, which stays as it is."""
        return Machine(code, self._ways, self._holds, self._root, handed, self._fresh)

    def _take_over(self, machine, row):
        """Makes the right tree that a play leaves the present one, and keeps what it changes."""
        ways = {node: tuple(machine.ways[node]) for node in row}
        holds = {node: machine.holds[node] for node in row}
        before = {}
        for node, beside in self._ways.items():
            if node not in ways or ways[node] != beside or holds[node] != self._holds[node]:
                before[node] = (beside, self._holds[node])
        added = [node for node in row if node not in self._ways]
        self._past.append((self._root, before, added))
        self._ways = ways
        self._holds = holds
        self._root = machine.root
        if machine.code.kind == "put":
            self._fresh += 1


def check_codes(ups, codes):
    if ups is not True and ups is not False:
        raise BadUps(ups)
    for name, code in codes.items():
        if type(name) != str or not isinstance(code, Code) or code.ups != ups:
            raise BadName(name)
