"""Told trees: None, or a tuple (left, item, right) with told trees left and right.

Nothing here calls itself along a tree, as a value that is asked about may be of any depth.
"""

from nextcode.errors import BadTree


def is_integer(value):
    # An exact comparison: True and False are not integers here, and no value gets to run code of its own.
    return type(value) == int


def is_item(value):
    """Whether any value is a pair of a key and a mark."""
    return type(value) == tuple and len(value) == 2 and is_integer(value[0]) and is_integer(value[1])


def is_node(value):
    """Whether any value has an item where a told tree has its own; what hangs beside it is not looked at."""
    return type(value) == tuple and len(value) == 3 and is_item(value[1])


def lies_between(key, low, high):
    """Whether the key is greater than low and less than high; None for no bound."""
    return (low is None or low < key) and (high is None or key < high)


def is_told(value):
    """Whether any value is a told tree."""
    marks = set()
    waiting = [(value, None, None)]
    while waiting:
        part, low, high = waiting.pop()
        if part is None:
            continue
        # The bounds are asked on the way down, so that a part that stands in a value many times is not walked again.
        if not is_node(part) or not lies_between(part[1][0], low, high) or part[1][1] in marks:
            return False
        key, mark = part[1]
        marks.add(mark)
        waiting.append((part[0], low, key))
        waiting.append((part[2], key, high))
    return True


def nodes_of(tree):
    """Each node of a told tree: its part of the tree, its depth from 1 on, and the part that it hangs on or None."""
    if not is_told(tree):
        raise BadTree(tree)
    found = []
    waiting = [(tree, 1, None)]
    while waiting:
        part, depth, above = waiting.pop()
        if part is not None:
            found.append((part, depth, above))
            waiting.append((part[0], depth + 1, part))
            waiting.append((part[2], depth + 1, part))
    return found


def all_items(tree):
    """The items of a told tree, a tuple, ascending."""
    return tuple(sorted([part[1] for part, depth, above in nodes_of(tree)]))


def height(tree):
    """The number of nodes on the longest path from the root, 0 for None."""
    return max([depth for part, depth, above in nodes_of(tree)], default=0)


def numbers_of(tree):
    """A dict from the keys of a told tree to the numbers of their nodes."""
    return {item[0]: number for number, item in enumerate(all_items(tree))}


def number_in(numbers, part):
    """The number of the node at which a part begins, or None."""
    return None if part is None else numbers[part[1][0]]


def root_of(tree):
    """The number of the root's node, or None."""
    return number_in(numbers_of(tree), tree)


def links(tree):
    """A dict from the numbers of the nodes to (left, right, up), numbers or None."""
    numbers = numbers_of(tree)
    found = {}
    for part, depth, above in nodes_of(tree):
        beside = (number_in(numbers, part[0]), number_in(numbers, part[2]), number_in(numbers, above))
        found[number_in(numbers, part)] = beside
    return found


def are_items(value):
    """Whether any value is a list of items whose keys and marks differ."""
    if type(value) != list and type(value) != tuple:
        return False
    if not all([is_item(one) for one in value]):
        return False
    many = len(value)
    return len(set([one[0] for one in value])) == many and len(set([one[1] for one in value])) == many


def of_items(items):
    """A told tree of least height for a list of items whose keys and marks differ, in any order."""
    if not are_items(items):
        raise BadTree(items)
    return halved(sorted(items))


def halved(items):
    """The told tree of ascending items that has the middle one at its root, and so on below."""
    if not items:
        return None
    middle = len(items) // 2
    return (halved(items[:middle]), items[middle], halved(items[middle + 1:]))
