"""Notes of what was met in some play: lines, sides of tests, and stations at the heads of loops.

A note is a tuple (world, plan, slot, is_up): what was met is met in a play on each tree that fits the world behind
the plan, if there is one; see the module laying.
"""

from nextcode.bills import bills_of
from nextcode.cases import case_of
from nextcode.fresh import signs_in
from nextcode.laying import lay
from nextcode.lines import SIDES
from nextcode.plans import chain_plan, facts_plan
from nextcode.splits import split_by_key, with_link
from nextcode.worlds import LEFT, MAYBE, NONE, RIGHT, THERE, sign_of_key, slot_of


class Notes:
    """What was met, in dicts to the first note of it; and the lightest fault for each promise that is broken, a
    tuple (number of nodes, world, wants); and the bills of all plays, as keys."""

    def __init__(self):
        self.by_line = {}
        self.by_side = {}
        self.by_station = {}
        self.by_promise = {}
        self.bills = {}
        self.walked = {}

    def note_line(self, number, world):
        if number not in self.by_line:
            self.by_line[number] = (world.copy(), None, None, False)

    def note_side(self, pair, world):
        if pair not in self.by_side:
            self.by_side[pair] = (world.copy(), None, None, False)

    def note_fault(self, promise, many, world, wants):
        if promise not in self.by_promise or many < self.by_promise[promise][0]:
            self.by_promise[promise] = (many, world, wants)

    def note_bills(self, world):
        for bill in bills_of(world):
            self.bills[bill] = True


def case_of_note(note):
    """A case in whose play that is met of which there is a note."""
    world, plan, slot, is_up = note
    return case_of(world if plan is None else lay(world, plan, slot, is_up), ())


def note_round(notes, told, world):
    for number in told.numbers:
        notes.note_line(number, world)
    for pair in told.answers:
        notes.note_side(pair, world)


def note_head(notes, world, number):
    """Notes the stations that the head of a loop can be at a node that is known, or at none."""
    node = world.named["at"]
    if node == NONE:
        note_station(notes, (number, world.came, None, None, None), world)
        return
    for sign, one in worlds_by_sign(world, node):
        for left, with_left in worlds_by_link(one, slot_of(node, LEFT)):
            for right, both in worlds_by_link(with_left, slot_of(node, RIGHT)):
                note_station(notes, (number, world.came, left, right, sign), both)


def note_station(notes, station, world):
    if station not in notes.by_station:
        notes.by_station[station] = (world.copy(), None, None, False)


def worlds_by_sign(world, node):
    """The pairs of a sign that the key can have to a node, and a world in which it has it."""
    if world.place is None:
        return [(None, world)]
    found = []
    waiting = [world]
    while waiting:
        one = waiting.pop()
        sign = sign_of_key(one, node)
        if sign is None:
            waiting.extend(split_by_key(one))
        else:
            found.append((sign, one))
    return found


def worlds_by_link(world, slot):
    """The pairs of whether a link leads to a node, and a world in which it does or does not."""
    value = world.at_start[slot]
    if value == MAYBE:
        return [(False, with_link(world, slot, NONE)), (True, with_link(world, slot, THERE))]
    return [(value != NONE, world)]


class WalkNotes:
    """The notes of a walk from a link of a world on, over nodes of which nothing is known."""

    def __init__(self, notes, walk, world, slot):
        self.notes = notes
        self.walk = walk
        self.world = world.copy()
        self.slot = slot

    def note(self, table, what, plan):
        if what not in table:
            table[what] = (self.world, plan, self.slot, self.walk.is_up)

    def note_told(self, told, plan):
        for number in told.numbers:
            self.note(self.notes.by_line, number, plan)
        for pair in told.answers:
            self.note(self.notes.by_side, pair, plan)

    def note_nowhere(self, chain, how):
        """Notes the head of the loop where `at` is none."""
        plan = chain_plan(chain)
        station = (self.walk.loop.number, None if self.walk.is_up else how, None, None, None)
        self.note(self.notes.by_station, station, plan)
        self.note_told(self.walk.nowhere, plan)

    def note_node(self, chain, region, how):
        """Notes the heads of the loop at a node behind such goes."""
        links = (True, False)
        for left in links if how == "right" or not self.walk.is_up else (True,):
            for right in links if how == "left" or not self.walk.is_up else (True,):
                for sign in signs_in(self.walk, region):
                    facts = {"left": left, "right": right, "key": sign, "from": how if self.walk.is_up else None}
                    station = (self.walk.loop.number, how, left, right, sign)
                    self.note(self.notes.by_station, station, facts_plan(chain, facts))
        for told in self.walk.table(region)[0]:
            if not self.walk.is_up or told.facts["from"] == how:
                self.note_told(told, facts_plan(chain, told.facts))


def note_walk(notes, walk, world, slot, region, how):
    """Notes what is met from the link on; walks that begin alike meet the same."""
    ahead = world.at_start[slot]
    begin = (walk.number, region, how, ahead)
    if begin in notes.walked:
        return
    notes.walked[begin] = True
    one = WalkNotes(notes, walk, world, slot)
    if ahead != THERE:
        one.note_nowhere((), how)
    waiting = [((), region, way) for way in ways_of(walk, how)] if ahead != NONE else []
    seen = {}
    while waiting:
        chain, region, how = waiting.pop()
        if (region, how) in seen:
            continue
        seen[(region, how)] = True
        one.note_node(chain, region, how)
        for go in walk.table(region)[1]:
            if walk.is_up and SIDES[go.side] != how:
                continue
            longer = chain + (go,)
            if go.ahead is not True:
                one.note_nowhere(longer, SIDES[go.side])
            if go.ahead is not False:
                waiting.extend([(longer, go.region, way) for way in ways_of(walk, SIDES[go.side])])


def ways_of(walk, how):
    """How the next node can be come to, from one at which the path goes down on a side."""
    return SIDES if walk.is_up else (how,)
