"""Codes: texts in the small language, for one kind of deed each, that are right in all their lines."""

from nextcode.blocks import count_ifs, read_blocks
from nextcode.errors import BadKind, BadUps, Refused, TooMany
from nextcode.limits import least_fault
from nextcode.steps import steps_of

KINDS = ("find", "after", "first", "next", "put", "take", "drop", "leave")
KINDS_WITH_UPS = ("next", "take", "leave")
MOST_LINES = 60
MOST_IFS = 7


class Answers:
    """What was found out about a code, kept beside it as it takes long; notes is None as long as nothing was asked."""

    def __init__(self):
        self.notes = None


class Code:
    """A code for one kind of deed; body holds the rows of its lines as they stand in one another, steps as they are
    played."""

    def __init__(self, kind, text, ups=True):
        check_kind(kind, ups)
        lines = lines_of(text)
        if len(lines) > MOST_LINES:
            raise TooMany("lines", len(lines), MOST_LINES)
        body = read_blocks(lines)
        many = count_ifs(body)
        if many > MOST_IFS:
            raise TooMany("ifs", many, MOST_IFS)
        fault = least_fault(kind, ups, lines, body)
        if fault is not None:
            raise Refused(fault)
        self.kind = kind
        self.ups = ups
        self.text = text
        self._lines = lines
        self.answers = Answers()
        self.body = body
        self.steps = tuple(steps_of(body))

    def __len__(self):
        return len(self._lines)

    def __getitem__(self, at):
        return self._lines[at - 1]

    def __eq__(self, other):
        return (isinstance(other, Code) and self.kind == other.kind and self.ups == other.ups
                and self.text == other.text)

    def __iter__(self):
        # Without it Python would count from 0 on by __getitem__.
        raise TypeError("a code is not iterated over")


def check_kind(kind, ups):
    if type(kind) != str or kind not in KINDS:
        raise BadKind(kind)
    # Not by ==, as 1 and 0 are equal to True and False.
    if ups is not True and ups is not False:
        raise BadUps(ups)
    if kind in KINDS_WITH_UPS and not ups:
        raise BadUps(ups)


def lines_of(text):
    """The lines of a text; one without signs has none."""
    return text.split("\n") if text else []
