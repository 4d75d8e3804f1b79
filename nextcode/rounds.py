"""Tests, and the rounds of loops, for plays on told trees and for plays of which not all is known alike.

Both are asked by a function of one part of a test, which answers True, False, BEYOND, or UNKNOWN where it has to be
known more of the tree first.
"""

BEYOND = "beyond"
UNKNOWN = "unknown"

# What a round comes to, but for these two and the links by which a loop goes.
OUT = "out"
QUIT = "quit"
AGAIN = "again"

NOTHING_THERE = ("same", ("at", None), ("none", None))


class Round:
    """A round of a loop: the numbers of the lines that were played, the answers (line, side) of the tests, the
    registers that keep `at`, and the action at its end; and for a node of which nothing was known the facts that
    were asked, the registers as bits, and how many comparisons were made."""

    def __init__(self):
        self.numbers = []
        self.answers = []
        self.keeps = []
        self.action = None
        self.facts = None
        self.bits = 0
        self.cost = 0


def answer_of(test, ask):
    """Whether a test holds, or BEYOND or UNKNOWN as the first part that does not answer."""
    for holds, asked in test:
        answer = ask(asked)
        if answer is not True and answer is not False:
            return answer
        if answer != holds:
            return False
    return True


def round_of(loop, ask):
    """The round that begins at the head of a loop."""
    told = Round()
    answer = asked_at(loop, ask, told)
    if answer is True:
        told.action = action_of(loop.body, ask, told) or AGAIN
    elif answer is False:
        told.action = OUT
    else:
        told.action = answer
    return told


def asked_at(row, ask, told):
    """The answer of the test of a row, which is noted."""
    told.numbers.append(row.number)
    answer = answer_of(row.said[1], ask)
    if answer is True or answer is False:
        told.answers.append((row.number, answer))
    return answer


def action_of(block, ask, told):
    """The action to which the rows of a block come, or None if the round goes on behind them."""
    for row in block:
        if row.said[0] == "if":
            answer = asked_at(row, ask, told)
            if answer is not True and answer is not False:
                return answer
            action = action_of(row.body if answer else row.other, ask, told)
        else:
            told.numbers.append(row.number)
            action = action_of_line(row.said, ask, told)
        if action is not None:
            return action
    return None


def action_of_line(said, ask, told):
    if said[0] == "keep":
        told.keeps.append(said[1])
        return None
    if said[0] == "go":
        return BEYOND if ask(NOTHING_THERE) else said[1]
    return OUT if said[0] == "stop" else QUIT
