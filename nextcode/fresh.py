"""The rounds of a loop at nodes of which nothing is known but how they were come to.

What is known and asked of such a node are its facts, a dict: "left", "right" and "up" tell whether there is a node,
"key" how the key that is handed stands to it, "from" on which side of it the last `go up` came. A region tells how
the key stands to all of the subtree of the node: IN it, BELOW, ABOVE, or FREE where no key is handed.
"""

from nextcode.lines import KEPT, PLACES, SIDES, UP
from nextcode.rounds import BEYOND, UNKNOWN, round_of
from nextcode.worlds import ABSENT, LEFT, MAYBE, NONE, NO_PRICE, THERE

FREE = "free"
IN = "in"
BELOW = "below"
ABOVE = "above"
ENDS = ("out", "quit", "beyond", "again")


class Fresh:
    """A node with such facts, or none, and how it stands to registers (-1, 1, or None for one that is none)."""

    def __init__(self, facts, signs):
        self.facts = facts
        self.signs = signs
        self.doubt = None
        self.compares = 0

    def ask(self, asked):
        """What a part of a test in a loop answers; the fact that has to be known for it is put in doubt."""
        word = asked[0]
        if word == "from":
            return self.facts is not None and self.facts["from"] == asked[1]
        if word == "same":
            return self.is_none(asked[1][1])
        if self.facts is None:
            return BEYOND
        answer = self.is_at_key() if word == "equal" else self.is_less(asked[1], asked[2])
        if answer is True or answer is False:
            self.compares += 1
        return answer

    def is_open(self, fact):
        if fact in self.facts:
            return False
        self.doubt = fact
        return True

    def is_none(self, link):
        if link is None:
            return self.facts is None
        if self.facts is None:
            return BEYOND
        return UNKNOWN if self.is_open(link) else not self.facts[link]

    def is_at_key(self):
        return UNKNOWN if self.is_open("key") else self.facts["key"] == 0

    def is_less(self, first, second):
        other = second if first == "at" else first
        if other in KEPT:
            sign = self.sign_to(other)
            if sign is None:
                return BEYOND
        elif self.is_open("key"):
            return UNKNOWN
        else:
            sign = -self.facts["key"]
        return sign < 0 if first == "at" else sign > 0

    def sign_to(self, name):
        """How the node stands to that of the register, which lies below it in a loop up."""
        sign = self.signs[name]
        came = self.facts["from"]
        if sign is None or came is None:
            return sign
        return 1 if came == "left" else -1


class Walk:
    """What the rounds of a loop can come to; within are the signs that the key can have to a node in the region IN."""

    def __init__(self, loop, number, within, signs):
        self.loop = loop
        self.number = number
        self.within = within
        self.signs = signs
        self.is_up = loop.said[0] == UP
        nothing = Fresh(None, signs)
        self.nowhere = with_bits(round_of(loop, nothing.ask))
        self.tables = {}
        self.plans = {}

    def table(self, region):
        """The rounds in a region, and the goes among them."""
        if region not in self.tables:
            found = rounds_in(self, region)
            self.tables[region] = (found, [go for told in found for go in goes_of(self, region, told)])
        return self.tables[region]


def with_bits(told):
    told.bits = bits_of(told.keeps)
    return told


def bits_of(names):
    """Registers that loops can keep as the bits of a number."""
    bits = 0
    for name in names:
        bits = bits | bit_of(name)
    return bits


def bit_of(name):
    return 1 << KEPT.index(name) if name in KEPT else 0


def signs_in(walk, region):
    """The signs that the key can have to a node in the region."""
    if region == IN:
        return walk.within
    if region == FREE:
        return (None,)
    return (-1,) if region == BELOW else (1,)


def rounds_in(walk, region):
    """All rounds at a node in the region, each with the facts that it asks."""
    if walk.is_up:
        return (all_rounds(walk, {"from": "left", "left": True}, ())
                + all_rounds(walk, {"from": "right", "right": True}, ()))
    known = {"from": None}
    signs = signs_in(walk, region)
    if len(signs) == 1:
        known["key"] = signs[0]
    return all_rounds(walk, known, signs)


def all_rounds(walk, known, signs):
    """The rounds at a node of which this is known, one for each way in which what is asked besides can be answered."""
    found = []
    waiting = [known]
    while waiting:
        facts = waiting.pop()
        node = Fresh(facts, walk.signs)
        told = with_bits(round_of(walk.loop, node.ask))
        if told.action == UNKNOWN:
            answers = signs if node.doubt == "key" else (True, False)
            waiting.extend([{**facts, node.doubt: answer} for answer in answers])
        else:
            told.facts = facts
            told.cost = node.compares
            found.append(told)
    return found


class Go:
    """A round that goes on: the key's sign to its node, the side on which the path goes down from the node, what the
    node's other link leads to (True, False, None if not asked), what the link leads to by which the loop goes,
    which registers keep the node, the region behind it, and how many comparisons are made."""

    def __init__(self, sign, side, beside, ahead, bits, region, cost):
        self.sign = sign
        self.side = side
        self.beside = beside
        self.ahead = ahead
        self.bits = bits
        self.region = region
        self.cost = cost


def goes_of(walk, region, told):
    """The goes to which a round comes, one for each sign of the key if it was not asked."""
    if told.action in ENDS:
        return []
    facts = told.facts
    if walk.is_up:
        side = PLACES[facts["from"]]
        return [Go(None, side, facts.get(SIDES[1 - side]), facts.get("up"), told.bits, FREE, told.cost)]
    side = PLACES[told.action]
    beside = facts.get(SIDES[1 - side])
    ahead = facts.get(told.action)
    signs = [facts["key"]] if "key" in facts else signs_in(walk, region)
    return [Go(sign, side, beside, ahead, told.bits, region_behind(region, sign, side), told.cost) for sign in signs]


def region_behind(region, sign, side):
    """The region of the subtree on this side of a node to which the key has the sign."""
    if region != IN:
        return region
    if side == LEFT:
        return IN if sign < 0 else ABOVE
    return IN if sign > 0 else BELOW


def status_of(fact):
    """What a link leads to of which this is known."""
    if fact is None:
        return MAYBE
    return THERE if fact else NONE


def class_of(goes):
    """The class of a node at which the loop goes on by one of these goes to the same side, it is open which one."""
    if not goes:
        return (ABSENT, NO_PRICE)
    price = tuple([max([go.cost for go in goes if go.beside in (None, there)], default=-1) for there in (False, True)])
    facts = [go.beside for go in goes]
    if None in facts or (True in facts and False in facts):
        return (MAYBE, price)
    return (status_of(facts[0]), price)
