"""The promises, and which of them a play on a told tree breaks."""

PROMISES = ("inside", "ends", "tree", "items", "out", "steady")
CHANGING = ("put", "take", "drop", "leave")
TELLING = ("find", "after", "first", "next", "leave")

# No promise: broken by plays which keep the others up to items and leave a node in the tree with another item than its
# own, which was not taken.
REFILLED = "refilled"


def broken_by(machine):
    """The promises that a play which is over breaks, in their order."""
    if machine.ended == "beyond":
        return ("inside",)
    if machine.ended == "endless":
        return ("ends",)
    row = right_row(machine)
    if row is None:
        return ("tree",)
    if not are_owed(machine, row):
        return ("items",)
    found = []
    if machine.code.kind in TELLING and machine.named["out"] != owed_node(machine, row):
        found.append("out")
    if has_moved(machine, row):
        found.append("steady")
    return tuple(found)


def right_row(machine):
    """The nodes that are met from the root, from left to right, or None where the tree is not right."""
    row = row_of(machine.ways, machine.root)
    if row is None or (machine.code.ups and not do_ups_fit(machine.ways, machine.root, row)):
        return None
    keys = [machine.holds[node][0] for node in row]
    if any([low >= high for low, high in zip(keys, keys[1:])]):
        return None
    return row


def row_of(ways, root):
    """The nodes that are met by left and right links, from left to right, or None if one of them is met twice."""
    seen = {}
    row = []
    path = []
    node = root
    while path or node is not None:
        while node is not None:
            if node in seen:
                return None
            seen[node] = True
            path.append(node)
            node = ways[node][0]
        node = path.pop()
        row.append(node)
        node = ways[node][1]
    return row


def do_ups_fit(ways, root, row):
    if root is not None and ways[root][2] is not None:
        return False
    for node in row:
        for below in ways[node][:2]:
            if below is not None and ways[below][2] != node:
                return False
    return True


def are_owed(machine, row):
    """Whether a right tree, with the nodes of the row, holds the items that are owed."""
    if machine.code.kind not in CHANGING:
        return (machine.ways == machine.start_ways and machine.holds == machine.start_holds
                and machine.root == machine.start_root)
    return [machine.holds[node] for node in row] == owed_items(machine)


def owed_items(machine):
    """The items that are owed by a code that changes the tree, ascending."""
    kind = machine.code.kind
    held = machine.start_holds
    if kind == "put":
        return sorted(list(held.values()) + [machine.handed])
    if kind == "drop":
        return sorted([item for item in held.values() if item[0] != machine.handed])
    return sorted([item for node, item in held.items() if node != machine.handed])


def owed_node(machine, row):
    """The node that is owed where the items of the row are, or None."""
    kind = machine.code.kind
    if kind == "find":
        return first_of([node for node in row if machine.holds[node][0] == machine.handed])
    if kind == "first":
        return first_of(row)
    bound = machine.handed if kind == "after" else machine.start_holds[machine.handed][0]
    return first_of([node for node in row if machine.holds[node][0] > bound])


def first_of(nodes):
    return nodes[0] if nodes else None


def has_moved(machine, row):
    """Whether an item that was there before is held by another node."""
    before = {item: node for node, item in machine.start_holds.items()}
    for node in row:
        item = machine.holds[node]
        if item in before and before[item] != node:
            return True
    return False
