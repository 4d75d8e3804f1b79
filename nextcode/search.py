"""The search through all plays of a code, on trees of every shape and size at once.

A play goes on in a world as long as what it asks is known there. Where something that has to be known is open, the
world is split, and the play goes on in each of the worlds in its place. Over nodes of which nothing is known loops go
on by plans, of which there are not many however long the path is.
"""

from nextcode.asking import ask, in_doubt, value_of
from nextcode.faults import faults_of, settled_worlds
from nextcode.fresh import ABOVE, BELOW, ENDS, FREE, IN, Walk
from nextcode.laying import lay
from nextcode.lines import PLACES, SIDES
from nextcode.live import compared_in, live_bits
from nextcode.notes import Notes, note_head, note_round, note_walk
from nextcode.plans import plans_of
from nextcode.rounds import BEYOND, OUT, QUIT, UNKNOWN, answer_of, round_of
from nextcode.splits import KEY, READ, split_by_doubt
from nextcode.worlds import (
    GAP, LEFT, NONE, OVER, WITHIN, first_world, least_nodes, node_within, order_of, slot_of)


def notes_of(code):
    """The notes of all plays of a code, which are made once."""
    answers = code.answers
    if answers.notes is None:
        answers.notes = Search(code).run()
    return answers.notes


class Search:
    """A search under way: waiting holds the worlds in which plays go on."""

    def __init__(self, code):
        self.code = code
        self.live = live_bits(code)
        self.notes = Notes()
        self.waiting = [first_world(code.kind, code.ups)]
        self.walks = {}
        self.compares = 0

    def run(self):
        while self.waiting:
            self.play_step(self.waiting.pop())
        return self.notes

    def play_step(self, world):
        """Plays one step in a world."""
        word, row, where = self.code.steps[world.step]
        self.compares = world.compares
        if word == "jump":
            self.go_on(world, where)
        elif word == "over":
            self.finish(world)
        elif word == "loop":
            self.meet_loop(world, row)
        else:
            self.notes.note_line(row.number, world)
            if word == "quit":
                self.finish(world)
            elif word == "if":
                self.play_if(world, row, where)
            else:
                self.play_line(world, row.said)

    def go_on(self, world, step):
        world.step = step
        self.waiting.append(world)

    def split_up(self, world):
        # The step is played once more from its start, so that nothing in it was compared yet.
        world.compares = self.compares
        self.waiting.extend(split_by_doubt(world))

    def play_if(self, world, row, where):
        answer = answer_of(row.said[1], lambda asked: ask(world, asked))
        if answer == UNKNOWN:
            self.split_up(world)
        elif answer == BEYOND:
            self.fail(world, "inside")
        else:
            self.notes.note_side((row.number, answer), world)
            self.go_on(world, world.step + 1 if answer else where)

    def play_line(self, world, said):
        """Plays a read, a write or a gets."""
        answer = read(world, said) if said[0] == "read" else change(world, said)
        if answer == UNKNOWN:
            self.split_up(world)
        elif answer == BEYOND:
            self.fail(world, "inside")
        else:
            self.go_on(world, world.step + 1)

    def fail(self, world, promise):
        self.notes.note_fault(promise, least_nodes(world), world, ())
        self.notes.note_bills(world)

    def finish(self, world):
        """Looks at what a play that is done leaves, and what it cost."""
        self.notes.note_bills(world)
        for one in settled_worlds(world):
            many = least_nodes(one)
            for promise, weight, wants in faults_of(one):
                self.notes.note_fault(promise, many + weight, one, wants)

    def meet_loop(self, world, loop):
        """Plays a round of a loop, at a node that is known or at none."""
        note_head(self.notes, world, loop.number)
        told = round_of(loop, lambda asked: ask(world, asked))
        if told.action == UNKNOWN:
            self.split_up(world)
            return
        note_round(self.notes, told, world)
        if told.action in ENDS:
            keep_at(world, told)
            self.end_loop(world, told.action)
            return
        slot = slot_of(world.named["at"], PLACES[told.action])
        region = region_at(world, slot)
        if region == UNKNOWN:
            in_doubt(world, KEY, None)
            self.split_up(world)
            return
        keep_at(world, told)
        if world.at_start[slot] > NONE:
            step_to(world, slot)
            self.go_on(world, world.step)
        else:
            self.walk_on(world, loop, slot, region)

    def end_loop(self, world, action):
        world.came = None
        if action == OUT:
            self.go_on(world, world.step + 1)
        elif action == QUIT:
            self.finish(world)
        else:
            self.fail(world, "inside" if action == BEYOND else "ends")

    def walk_on(self, world, loop, slot, region):
        """Plays the loop on from a link of a node; if it leads to a node, nothing is known of that one."""
        walk = self.walk_of(world, loop, slot)
        ahead = world.at_start[slot]
        how = None if walk.is_up else SIDES[slot % 3]
        note_walk(self.notes, walk, world, slot, region, how)
        for action in ENDS:
            for plan in plans_of(walk, region, ahead, action, self.bits_at(world, action)):
                self.end_loop(lay(world, plan, slot, walk.is_up), action)

    def bits_at(self, world, action):
        """The registers that matter behind the end of a loop."""
        if action == OUT:
            return self.live[world.step + 1]
        return self.live[-1] if action == QUIT else 0

    def walk_of(self, world, loop, slot):
        signs = {name: sign_at(world, name, slot) for name in compared_in(loop)}
        begin = (loop.number, tuple(list(signs.items())))
        if begin not in self.walks:
            within = (-1, 1) if self.code.kind == "put" else (-1, 0, 1)
            self.walks[begin] = Walk(loop, len(self.walks), within, signs)
        return self.walks[begin]


def read(world, said):
    """Reads what a term tells into a register; UNKNOWN or BEYOND if that can not be done."""
    value, slot = value_of(world, said[2])
    if value == BEYOND:
        return BEYOND
    if value < NONE:
        return in_doubt(world, READ, slot)
    world.named[said[1]] = value
    return None


def change(world, said):
    """Writes a link, the root or an item; BEYOND if there is no node for it."""
    node = world.named[said[2]]
    if said[0] == "gets":
        holder = world.named[said[1]]
        if holder == NONE or node == NONE:
            return BEYOND
        world.holds[holder] = world.holds[node]
        return None
    name, link = said[1]
    if name == "root":
        world.now[LEFT] = node
        return None
    if world.named[name] == NONE:
        return BEYOND
    world.now[slot_of(world.named[name], PLACES[link])] = node
    return None


def keep_at(world, told):
    for name in told.keeps:
        world.named[name] = world.named["at"]


def step_to(world, slot):
    """Lets a loop go by a link to a node that is known."""
    node, link = divmod(slot, 3)
    world.named["at"] = world.at_start[slot]
    world.came = SIDES[world.hung[node] % 2 if link == OVER else link]


def sign_at(world, name, slot):
    """How the nodes at a link stand to that of a register, which is a forebear; None if it is none.

    In a loop up this hangs on how each node is come to, and any sign will do.
    """
    other = world.named[name]
    if other == NONE:
        return None
    return -1 if order_of(world, slot // 3, other) < 0 else 1


def region_at(world, slot):
    """How the key stands to the subtree at a link of a node that is known; UNKNOWN if this is open."""
    node, side = divmod(slot, 3)
    if world.place is None or world.at_start[slot] == NONE:
        return FREE
    word, where, link = world.place
    if word == WITHIN and node_within(world, node, where):
        return UNKNOWN
    if where != node:
        return BELOW if order_of(world, where, node) < 0 else ABOVE
    if word == GAP and link == side:
        return IN
    return ABOVE if side == LEFT else BELOW
