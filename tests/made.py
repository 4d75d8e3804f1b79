"""Codes that are made by a number, always the same ones: right codes with slips, and codes that are freely made."""

import random

from nextcode.codes import Code
from nextcode.errors import BadLine, Refused, TooMany
from tests.helper import ALL_KINDS, SEARCHES, STANDING
from tests.samples import KEEPING_ALL, MOVING

REGISTERS = ["at", "par", "top", "low", "out"]
HEADS = ("if", "down", "up", "end", "else")


def code_or_none(kind, ups, rows):
    """The code of these rows, or None where it is none."""
    try:
        return Code(kind, "\n".join(rows), ups)
    except (BadLine, Refused, TooMany):
        return None


class Maker:
    """What lines are made of, for a kind of deed."""

    def __init__(self, number, kind, ups):
        self.chance = random.Random(number)
        self.kind = kind
        self.ups = ups
        self.ifs = 0

    def one(self, *values):
        return self.chance.choice(values)

    def some(self, share):
        return self.chance.random() < share

    def register(self):
        return self.chance.choice(REGISTERS)

    def kept(self):
        return self.chance.choice(REGISTERS[1:])

    def holder(self):
        return "new" if self.kind == "put" and self.some(0.2) else self.register()

    def link(self):
        return self.one("left", "right", "up") if self.ups else self.one("left", "right")

    def end_of(self, name=None):
        return f"{name or self.holder()}.{self.link()}"

    def told(self):
        return self.one("none", self.holder(), self.holder(), "root", self.end_of(), self.end_of(), self.end_of())

    def part(self, name=None):
        """A part of a test outside loops; links are those of the name, if there is one."""
        no = self.one("", "not ")
        if self.some(0.75):
            return f"{no}{self.end_of(name) if name else self.told()} is {self.told()}"
        other = self.one("key", self.register()) if self.kind in ("find", "after", "drop") else self.holder()
        return f"{no}{self.one(f'{self.register()} < {other}', f'{other} < {self.register()}')}"

    def line(self):
        return self.one(f"{self.register()} = {self.end_of()}", f"{self.register()} = {self.end_of()}",
                        f"{self.end_of()} = {self.one(self.holder(), 'none')}", f"{self.register()} = {self.holder()}",
                        f"{self.end_of()} = {self.holder()}", f"{self.holder()} gets {self.holder()}",
                        f"root = {self.holder()}", f"keep {self.kept()}", "quit")


def with_slips(number):
    """A right code in which some lines were lost, changed, moved or put in, or None."""
    kind, ups, rows = random.Random(number).choice(KEEPING_ALL + MOVING)
    make = Maker(number + 1, kind, ups)
    lines = rows.split("; ")
    for _ in range(make.one(1, 1, 2, 2, 3)):
        slip(make, lines)
    return code_or_none(kind, ups, lines)


def slip(make, lines):
    at = make.chance.randrange(len(lines))
    is_plain = lines[at].split(" ")[0] not in HEADS
    deed = make.chance.random()
    if deed < 0.2 and is_plain:
        del lines[at]
    elif deed < 0.3 and is_plain:
        lines.insert(make.chance.randrange(len(lines)), lines.pop(at))
    elif deed < 0.5:
        lines.insert(at, make.line())
    elif deed < 0.65:
        lines.insert(min(at + make.one(1, 2, 3), len(lines)), "end")
        lines.insert(at, f"if {make.part()}")
    else:
        words = lines[at].split(" ")
        place = make.chance.randrange(len(words))
        words[place] = other_word(make, words[place])
        lines[at] = " ".join([word for word in words if word])


def other_word(make, word):
    if word == "not":
        return ""
    if word in ("if", "down", "up"):
        return f"{word} not"
    if word in ("left", "right"):
        return make.one("left", "right")
    if "." in word:
        return make.one(make.end_of(), make.end_of(word.split(".")[0]))
    if word in REGISTERS or word in ("new", "none"):
        return make.one(make.holder(), make.holder(), "none")
    return {"stop": "quit", "quit": "stop", "root": make.holder()}.get(word, word)


def freely_made(number):
    """A code that is made line by line, or None."""
    chance = random.Random(number)
    kind = chance.choice(ALL_KINDS)
    make = Maker(number + 1, kind, kind in STANDING or chance.random() < 0.6)
    rows = make_ahead(make)
    for _ in range(make.one(0, 1, 2, 3, 4)):
        rows.extend(make_block(make))
    if make.some(0.5):
        rows.append(f"out = {make.register()}")
    return code_or_none(kind, make.ups, rows)


def make_ahead(make):
    """The lines up to the last loop."""
    rows = [f"{make.kept()} = {make.one('none', *REGISTERS)}" for _ in range(make.one(0, 0, 1))]
    if make.kind in SEARCHES:
        rows += ["at = root"] + [f"{make.kept()} = at" for _ in range(make.one(0, 1))] + make_loop(make, "down", False)
        if make.some(0.5):
            rows += ["if at is none", "quit", "end"] + [f"if {make.part()}", "quit", "end"] * make.one(0, 0, 1)
            rows += [f"at = at.{make.one('left', 'right')}"] + make_loop(make, "down", True)
        return rows
    rows += [f"if {make.one('at.right is none', 'at.up is none', make.part())}"]
    up = ["at = at.up"] * make.one(0, 1) + [f"if {make.part()}", "quit", "end"] * make.one(0, 0, 1)
    rows += up + make_loop(make, "up", True) + ["else"]
    return rows + [f"at = at.{make.one('left', 'right')}"] + make_loop(make, "down", True) + ["end"]


def make_loop(make, word, can_compare):
    compared = make.kept() if can_compare and make.some(0.4) else None
    kept = [name for name in REGISTERS[1:] if name != compared]
    rows = [f"{word} {make.one('not at is none', 'not at is none', 'not at is none', ask_in(make, word, compared))}"]
    rows += keep_some(make, kept)
    if make.some(0.4):
        rows += [f"if {ask_in(make, word, compared)}"] + keep_some(make, kept) + [make.one("stop", "stop", "quit"), "end"]
    if make.some(0.3):
        rows += [f"if {ask_in(make, word, compared)}"] + keep_some(make, kept) + ["end"]
    rows += [f"if {ask_in(make, word, compared)}"] + keep_some(make, kept) + go_on(make, word)
    return rows + ["else"] + keep_some(make, kept) + go_on(make, word) + ["end", "end"]


def keep_some(make, names):
    return [f"keep {name}" for name in names if make.some(0.25)]


def go_on(make, word):
    if make.some(0.07):
        return []
    return ["go up"] if word == "up" else [f"go {make.one('left', 'right')}"]


def ask_in(make, word, compared):
    """A part of a test in a loop."""
    found = ["at.left is none", "at.right is none"]
    if word == "up":
        found += ["at.up is none", "from left", "from right"]
    elif make.kind in ("find", "after", "drop"):
        found += ["key < at", "at < key", "key is at", "key < at", "at < key"]
    elif make.kind == "put":
        found += ["new < at", "at < new"] * 2
    if compared:
        found += [f"at < {compared}", f"{compared} < at"]
    return make.one("", "", "not ") + make.one(*found)


def make_block(make):
    """An if outside loops, most links in which are those of nodes that are there."""
    make.ifs += 1
    names = make.chance.sample(REGISTERS, make.one(1, 1, 2, 3))
    parts = [f"not {name} is none" for name in names] + [make.part(names[0]) for _ in range(make.one(0, 1, 1, 2))]
    rows = [f"if {' and '.join(parts)}"]
    for _ in range(make.one(1, 2, 3)):
        name = make.chance.choice(names)
        read = f"{make.register()} = {make.end_of(name)}"
        write = f"{make.end_of(name)} = {make.one(make.holder(), make.holder(), 'none')}"
        rows.append(make.one(read, read, write, make.line()) if make.kind in ("put", "take", "drop", "leave") else read)
    if make.ifs < 4 and make.some(0.4):
        rows += make_block(make)
    return rows + ["end"]


def comparing(number):
    """A code whose rounds compare more or less by what they see, or None."""
    chance = random.Random(number)
    kind = chance.choice(ALL_KINDS)
    make = Maker(number + 1, kind, kind in STANDING or chance.random() < 0.6)
    name = make.kept()
    rows = [f"{name} = at"] if make.some(0.7) else []
    if kind in SEARCHES:
        rows += ["at = root"] + comparing_loop(make, "down", None)
        if make.some(0.5):
            rows += ["if at is none", "quit", "end"] + [f"{name} = at"] * make.one(0, 1, 1)
            rows += [f"at = at.{make.one('left', 'right')}"] + comparing_loop(make, "down", name)
    elif make.some(0.5):
        rows += ["at = at.up"] * make.one(0, 0, 1) + comparing_loop(make, "up", name)
    else:
        rows += [f"at = at.{make.one('left', 'right')}"] + comparing_loop(make, "down", name)
    for _ in range(make.one(0, 1, 2, 3, 4)):
        rows += comparing_behind(make)
    return code_or_none(kind, make.ups, rows)


def comparing_loop(make, word, name):
    compared = name if make.some(0.7) else None
    kept = [name for name in REGISTERS[1:] if name != compared]
    head = make.one("", "", " and " + comparing_test(make, word, compared))
    rows = [f"{word} not at is none{head}"]
    for _ in range(make.one(0, 0, 1, 2)):
        rows += [f"if {comparing_test(make, word, compared)}", "end"]
    return rows + comparing_block(make, word, compared, kept, make.one(1, 2, 2, 3)) + ["end"]


def comparing_block(make, word, compared, kept, depth):
    rows = [f"keep {make.chance.choice(kept)}"] if make.some(0.15) else []
    if depth == 0 or make.some(0.25):
        return rows + make.one(*[go_on(make, word)] * 4, ["stop"], ["quit"])
    rows += [f"if {comparing_test(make, word, compared)}"] + comparing_block(make, word, compared, kept, depth - 1)
    return rows + ["else"] + comparing_block(make, word, compared, kept, depth - 1) + ["end"]


def comparing_test(make, word, compared):
    return " and ".join([ask_in(make, word, compared) for _ in range(make.one(1, 1, 2, 2, 3))])


def comparing_behind(make):
    """Lines behind the last loop that read on from a node, or compare it."""
    name, other = make.chance.sample(REGISTERS, 2)
    if make.some(0.5):
        return [f"if not {name} is none", f"{make.register()} = {make.end_of(name)}", "end"]
    if make.some(0.3):
        return [f"if {make.part()}"] + make.one([], ["quit"]) + ["end"]
    if make.kind in ("find", "after", "drop", "put") and make.some(0.5):
        return [f"if not {name} is none and {name} < {'new' if make.kind == 'put' else 'key'}", "end"]
    return [f"if not {name} is none and not {other} is none and {name} < {other}", "end"]
