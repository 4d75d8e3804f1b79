"""The blocks of a code: which lines stand in which ifs and loops."""

from nextcode.errors import BadLine
from nextcode.lines import LOOPS, OUTSIDE, read_line


class Row:
    """A line of a code: its number, what it says, and the rows within it: the body, and behind its else the other."""

    def __init__(self, number, said):
        self.number = number
        self.said = said
        self.body = []
        self.other = []
        self.has_else = False


def read_blocks(lines):
    """The rows that stand in no other row; BadLine for the first line without a form of its place."""
    heads = []
    blocks = [[]]
    for number, line in enumerate(lines, start=1):
        said = read_line(line, place_in(heads))
        if said is None or not fits(said[0], heads):
            raise BadLine(number)
        take_in(Row(number, said), heads, blocks)
    if heads:
        raise BadLine(len(lines) + 1)
    return blocks[0]


def place_in(heads):
    """The place of a line that stands in the rows heads, which still lack their ends."""
    for head in heads:
        if head.said[0] in LOOPS:
            return head.said[0]
    return OUTSIDE


def fits(word, heads):
    """Whether there is an if that the else turns, or a row that the end ends."""
    if word == "else":
        return bool(heads) and heads[-1].said[0] == "if" and not heads[-1].has_else
    return word != "end" or bool(heads)


def take_in(row, heads, blocks):
    """Puts a row into the block that it stands in; blocks are those that more rows may come to."""
    word = row.said[0]
    if word == "end":
        heads.pop()
        blocks.pop()
    elif word == "else":
        heads[-1].has_else = True
        blocks.pop()
        blocks.append(heads[-1].other)
    else:
        blocks[-1].append(row)
        if word == "if" or word in LOOPS:
            heads.append(row)
            blocks.append(row.body)


def count_ifs(block):
    """How many ifs stand outside loops."""
    many = 0
    for row in block:
        if row.said[0] == "if":
            many += 1 + count_ifs(row.body) + count_ifs(row.other)
    return many
