"""Trees as links between numbered nodes: dicts from the nodes to (left, right, up), numbers or None."""

from nextcode.trees import links


def ways_in(tree, ups):
    """The links of a told tree; all up links are None if it is one without ups."""
    ways = links(tree)
    if ups:
        return ways
    return {number: (beside[0], beside[1], None) for number, beside in ways.items()}


def nodes_down(ways, root):
    """The nodes that are met from the root by left and right links, each once, none behind one below it in a tree."""
    found = {}
    waiting = [root]
    while waiting:
        node = waiting.pop()
        if node is not None and node not in found:
            found[node] = True
            waiting.extend(ways[node][:2])
    return list(found)


def told_tree(ways, holds, root):
    """The told tree of links that are those of a right tree, with the items that the nodes hold."""
    made = {None: None}
    for node in nodes_down(ways, root)[::-1]:
        left, right, _ = ways[node]
        made[node] = (made[left], holds[node], made[right])
    return made[root]
