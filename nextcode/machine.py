"""A code that is played on a tree, step by step."""

from nextcode.lines import PLACES, REGISTERS
from nextcode.rounds import AGAIN, BEYOND, OUT, QUIT, answer_of, round_of

DONE = "done"
ENDLESS = "endless"


class Machine:
    """A play under way, and how it ended.

    The nodes have numbers: ways leads from them to lists [left, right, up], holds to their items. They are copied,
    and how they were at the start is kept beside them.
    """

    def __init__(self, code, ways, holds, root, handed, fresh):
        self.code = code
        self.ways = {number: list(beside) for number, beside in ways.items()}
        self.holds = dict(holds)
        self.root = root
        self.handed = handed
        self.named = {name: None for name in REGISTERS}
        self.named["none"] = None
        self.start_ways = {number: list(beside) for number, beside in ways.items()}
        self.start_holds = dict(holds)
        self.start_root = root
        self.compares = 0
        self.came = None
        self.played = {}
        self.answered = {}
        self.met = []
        self.ended = None
        self.hand(fresh)
        self.run()

    def hand(self, fresh):
        """Lets the code have what is handed; fresh is the number for a new node."""
        kind = self.code.kind
        if kind == "put":
            self.ways[fresh] = [None, None, None]
            self.holds[fresh] = self.handed
            self.named["new"] = fresh
        elif kind in ("next", "take", "leave"):
            self.named["at"] = self.handed

    def run(self):
        at = 0
        while self.ended is None:
            at = self.play_step(at)

    def play_step(self, at):
        """Plays one step and returns the one behind it, if the play is not over."""
        word, row, where = self.code.steps[at]
        if word == "jump":
            return where
        if word == "over":
            self.ended = DONE
        elif word == "loop":
            self.run_loop(row)
        else:
            self.played[row.number] = True
            if word == "if":
                return at + 1 if self.test(row) is True else where
            if word == QUIT:
                self.ended = DONE
            else:
                self.play_line(row.said)
        return at + 1

    def test(self, row):
        answer = answer_of(row.said[1], self.ask)
        if answer == BEYOND:
            self.ended = BEYOND
        else:
            self.answered[(row.number, answer)] = True
        return answer

    def play_line(self, said):
        """Plays a read, a write or a gets, or changes nothing if it leads beyond."""
        word, target, source = said
        if word == "read":
            value = self.value_of(source)
            if value != BEYOND:
                self.named[target] = value
        elif word == "gets":
            value = self.holder_of(target, source)
            if value != BEYOND:
                self.holds[value] = self.holds[self.named[source]]
        else:
            value = self.write(target, self.named[source])
        if value == BEYOND:
            self.ended = BEYOND

    def holder_of(self, target, source):
        """The node that gets the item, if both are there."""
        if self.named[target] is None or self.named[source] is None:
            return BEYOND
        return self.named[target]

    def write(self, target, node):
        name, link = target
        if name == "root":
            self.root = node
            return None
        if self.named[name] is None:
            return BEYOND
        self.ways[self.named[name]][PLACES[link]] = node
        return None

    def value_of(self, term):
        name, link = term
        if name == "root":
            return self.root
        node = self.named[name]
        if link is None:
            return node
        return BEYOND if node is None else self.ways[node][PLACES[link]]

    def ask(self, asked):
        """What a part of a test answers."""
        if asked[0] == "from":
            return self.came == asked[1]
        if asked[0] == "same":
            first = self.value_of(asked[1])
            second = self.value_of(asked[2])
            return BEYOND if BEYOND in (first, second) else first == second
        if asked[0] == "equal":
            first, second = "key", asked[1]
        else:
            first, second = asked[1], asked[2]
        if self.is_nothing(first) or self.is_nothing(second):
            return BEYOND
        self.compares += 1
        if asked[0] == "equal":
            return self.key_of(first) == self.key_of(second)
        return self.key_of(first) < self.key_of(second)

    def is_nothing(self, name):
        return name != "key" and self.named[name] is None

    def key_of(self, name):
        return self.handed if name == "key" else self.holds[self.named[name]][0]

    def run_loop(self, loop):
        self.came = None
        while self.ended is None:
            self.met.append(self.station(loop))
            told = round_of(loop, self.ask)
            for number in told.numbers:
                self.played[number] = True
            for answer in told.answers:
                self.answered[answer] = True
            for name in told.keeps:
                self.named[name] = self.named["at"]
            if told.action == OUT:
                return
            self.end_round(loop, told.action)

    def end_round(self, loop, action):
        if action == QUIT:
            self.ended = DONE
        elif action == BEYOND:
            self.ended = BEYOND
        elif action == AGAIN:
            # The loop is met at its head once more before the play ends.
            self.met.append(self.station(loop))
            self.ended = ENDLESS
        else:
            self.go(action)

    def go(self, link):
        before = self.named["at"]
        at = self.ways[before][PLACES[link]]
        self.named["at"] = at
        if link != "up":
            self.came = link
        elif at is None:
            self.came = None
        else:
            self.came = "left" if self.ways[at][0] == before else "right"

    def station(self, loop):
        """What can be seen at the head of a loop."""
        at = self.named["at"]
        if at is None:
            return (loop.number, self.came, None, None, None)
        left, right, _ = self.ways[at]
        return (loop.number, self.came, left is not None, right is not None, self.sign_at(at))

    def sign_at(self, at):
        """How the key that is handed stands to that of a node, -1, 0 or 1; None where no key is handed."""
        kind = self.code.kind
        if kind not in ("find", "after", "drop", "put"):
            return None
        key = self.handed[0] if kind == "put" else self.handed
        here = self.holds[at][0]
        return (key > here) - (key < here)
