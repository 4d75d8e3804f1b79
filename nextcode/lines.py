"""The forms of the single lines of a code, outside loops, in a loop down and in a loop up.

What a line says is a tuple with its first word, or what it does, ahead:

    ("read", R, term)         the register R gets what the term tells
    ("write", term, T)        the link, or the root, leads to T
    ("gets", S, T)            S holds the item of T
    ("go", link), ("keep", R), ("stop",), ("quit",), ("else",), ("end",)
    ("if", test), ("down", test), ("up", test)

A term is (name, link), with the link None for `root`, `none`, a register or `new` itself. A test is a tuple of
parts (holds, asked): holds is False behind a `not`, and asked is one of

    ("same", term, term), ("less", X, Y), ("equal", X), ("from", side)
"""

REGISTERS = ("at", "par", "top", "low", "out")
KEPT = ("par", "top", "low", "out")
HOLDERS = ("at", "par", "top", "low", "out", "new")
BARE = ("at", "par", "top", "low", "out", "new", "root", "none")
LED_TO = ("at", "par", "top", "low", "out", "new", "none")
COMPARED = ("at", "par", "top", "low", "out", "new", "key")
LINKS = ("left", "right", "up")
SIDES = ("left", "right")

# Where a node keeps its links, if they stand in a row.
PLACES = {"left": 0, "right": 1, "up": 2}

OUTSIDE = "outside"
DOWN = "down"
UP = "up"
LOOPS = ("down", "up")


def read_line(line, place):
    """What the line says, or None where it has no form of the place: OUTSIDE, or the word of the loop around it."""
    words = line.split(" ")
    if words[0] == "if":
        return read_asking(words, place)
    if words in (["quit"], ["else"], ["end"]):
        return (words[0],)
    if place == OUTSIDE:
        return read_outside(words)
    return read_within(words, place)


def read_asking(words, place):
    """A line with a test, which is asked at the place."""
    test = read_test(words[1:], place)
    return None if test is None else (words[0], test)


def read_outside(words):
    if words[0] in LOOPS:
        # The test of a loop itself counts as in it.
        return read_asking(words, words[0])
    if len(words) != 3:
        return None
    if words[1] == "=":
        return read_setting(words[0], words[2])
    if words[1] == "gets" and words[0] in HOLDERS and words[2] in HOLDERS:
        return ("gets", words[0], words[2])
    return None


def read_setting(target, source):
    """A line with a `=`: a read of something into a register, or a write of the root or a link."""
    if target in REGISTERS:
        term = read_term(source)
        return None if term is None else ("read", target, term)
    if source not in LED_TO:
        return None
    if target == "root":
        return ("write", ("root", None), source)
    link = read_link(target)
    return None if link is None else ("write", link, source)


def read_within(words, place):
    if words == ["stop"]:
        return ("stop",)
    if len(words) != 2:
        return None
    if words[0] == "keep" and words[1] in KEPT:
        return ("keep", words[1])
    if words[0] == "go" and words[1] in steps_of(place):
        return ("go", words[1])
    return None


def steps_of(place):
    """The links by which a loop goes."""
    return SIDES if place == DOWN else (UP,)


def read_link(word):
    name, _, link = word.partition(".")
    return (name, link) if name in HOLDERS and link in LINKS else None


def read_term(word):
    return (word, None) if word in BARE else read_link(word)


def read_test(words, place):
    """The parts of a test, or None where one has no form of the place."""
    parts = [read_part(group, place) for group in parted(words)]
    return None if None in parts else tuple(parts)


def parted(words):
    """The words between the `and`s, a list for each part."""
    groups = [[]]
    for word in words:
        if word == "and":
            groups.append([])
        else:
            groups[-1].append(word)
    return groups


def read_part(words, place):
    holds = words[:1] != ["not"]
    asked = read_asked(words if holds else words[1:], place)
    return None if asked is None else (holds, asked)


def read_asked(words, place):
    if len(words) == 2:
        is_side = place == UP and words[0] == "from" and words[1] in SIDES
        return ("from", words[1]) if is_side else None
    if len(words) != 3:
        return None
    if words[1] == "<":
        return read_less(words[0], words[2], place)
    if words[1] != "is":
        return None
    if words[0] == "key":
        return read_equal(words[2], place)
    return read_same(words[0], words[2], place)


def read_less(first, second, place):
    is_right = first in COMPARED and second in COMPARED and first != second
    if place != OUTSIDE:
        is_right = is_right and "at" in (first, second)
    return ("less", first, second) if is_right else None


def read_equal(name, place):
    is_right = name in REGISTERS if place == OUTSIDE else name == "at"
    return ("equal", name) if is_right else None


def read_same(first, second, place):
    one, other = read_term(first), read_term(second)
    if place == OUTSIDE:
        is_right = one is not None and other is not None and one != other
    else:
        is_right = second == "none" and one in asked_within(place)
    return ("same", one, other) if is_right else None


def asked_within(place):
    """The terms of which a loop may ask whether they are none."""
    if place == DOWN:
        return (("at", None), ("at", "left"), ("at", "right"))
    return (("at", None), ("at", "left"), ("at", "right"), ("at", "up"))
