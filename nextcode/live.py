"""Which registers matter at each step of a code: what they hold there may be read later, or is told at the end."""

from nextcode.fresh import bit_of, bits_of
from nextcode.lines import KEPT
from nextcode.promises import TELLING


def live_bits(code):
    """For each step the registers, as bits, that matter ahead of it; those that matter at the end stand last."""
    steps = code.steps
    at_end = bit_of("out") if code.kind in TELLING else 0
    # A step leads to later ones alone.
    found = [at_end] * len(steps)
    for at in range(len(steps) - 2, -1, -1):
        found[at] = bits_ahead(steps[at], found, at, at_end)
    return found


def bits_ahead(step, found, at, at_end):
    word, row, where = step
    if word == "jump":
        return found[where]
    if word == "quit":
        return at_end
    if word == "if":
        return found[at + 1] | found[where] | bits_in_test(row.said[1])
    if word == "loop":
        return found[at + 1] | bits_of(compared_in(row))
    if word == "read":
        return (found[at + 1] & ~bit_of(row.said[1])) | bit_of(row.said[2][0])
    target = row.said[1] if word == "gets" else row.said[1][0]
    return found[at + 1] | bit_of(target) | bit_of(row.said[2])


def bits_in_test(test):
    """The registers that are named in a test."""
    bits = 0
    for _, asked in test:
        for part in asked[1:]:
            bits = bits | bit_of(part[0] if asked[0] == "same" else part)
    return bits


def compared_in(loop):
    """The registers that a loop compares with `at`, each once, in a fixed order."""
    found = {}
    waiting = [loop]
    while waiting:
        row = waiting.pop()
        waiting.extend(row.body + row.other)
        if len(row.said) > 1 and type(row.said[1]) == tuple:
            for _, asked in row.said[1]:
                if asked[0] == "less":
                    found[asked[1]] = True
                    found[asked[2]] = True
    return [name for name in KEPT if name in found]
