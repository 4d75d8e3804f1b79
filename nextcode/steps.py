"""The lines outside loops as steps, one behind the other, so that a play stands at one number at a time.

A step is a tuple (word, row, where): the word is what the row says first, or

    "if"    where is the step behind which the play goes on if the test does not hold
    "loop"  a loop down or up, with all that stands in it
    "jump"  the play goes on at where; there is no row
    "over"  the play ends behind the last line; there is no row
"""

from nextcode.lines import LOOPS


def steps_of(body):
    """The steps of the rows that stand in no other row."""
    steps = []
    lay_out(body, steps)
    steps.append(("over", None, None))
    return steps


def lay_out(block, steps):
    """Puts the steps of a block behind those that are there."""
    for row in block:
        word = row.said[0]
        if word == "if":
            lay_out_if(row, steps)
        elif word in LOOPS:
            steps.append(("loop", row, None))
        else:
            steps.append((word, row, None))


def lay_out_if(row, steps):
    head = len(steps)
    steps.append(None)
    lay_out(row.body, steps)
    if not row.other:
        steps[head] = ("if", row, len(steps))
        return
    tail = len(steps)
    steps.append(None)
    steps[head] = ("if", row, len(steps))
    lay_out(row.other, steps)
    steps[tail] = ("jump", None, len(steps))
