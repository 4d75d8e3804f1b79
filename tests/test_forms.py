"""The forms of lines in each place, and the blocks: which line is told by BadLine."""

import itertools
import unittest

from nextcode.codes import Code
from nextcode.lines import read_line
from tests.helper import ALL_KINDS, fate, text_of

REGISTERS = ["at", "par", "top", "low", "out"]
HOLDERS = REGISTERS + ["new"]
LINK_TERMS = [f"{name}.{link}" for name in HOLDERS for link in ("left", "right", "up")]
WORDS = HOLDERS + LINK_TERMS + [
    "root", "none", "key", "left", "right", "up", "down", "go", "keep", "stop", "quit", "if", "else", "end", "from",
    "gets", "is", "<", "=", "not", "and", "", "root.left", "none.left", "key.left", "at.", ".left", "at.left.left",
    "at.key", "AT", "at,", ">", "==", "0", "while"]

# Around the line that is asked about, for each place; the line is the one numbered last.
AROUND = {"outside": ("out = at\n", "", 2), "down": ("down at is none\n", "\nend", 2), "up": ("up at is none\n", "\nend", 2)}


def reads():
    sources = HOLDERS + ["root", "none"] + LINK_TERMS
    return {f"{name} = {source}" for name in REGISTERS for source in sources}


def writes():
    found = {f"{link} = {led}" for link in LINK_TERMS for led in HOLDERS + ["none"]}
    found |= {f"root = {led}" for led in HOLDERS + ["none"]}
    return found | {f"{one} gets {other}" for one in HOLDERS for other in HOLDERS}


LINES = {
    "outside": reads() | writes() | {"quit"},
    "down": {"go left", "go right", "stop", "quit"} | {f"keep {name}" for name in ("par", "top", "low", "out")},
    "up": {"go up", "stop", "quit"} | {f"keep {name}" for name in ("par", "top", "low", "out")},
}


def parts(place):
    """All parts of tests that have a form of the place."""
    terms = HOLDERS + ["root", "none"] + LINK_TERMS
    compared = HOLDERS + ["key"]
    if place == "outside":
        found = {f"{one} is {other}" for one, other in itertools.permutations(terms, 2)}
        found |= {f"{one} < {other}" for one, other in itertools.permutations(compared, 2)}
        return found | {f"key is {name}" for name in REGISTERS}
    others = [name for name in compared if name != "at"]
    found = {"at is none", "at.left is none", "at.right is none", "key is at"}
    found |= {f"at < {name}" for name in others} | {f"{name} < at" for name in others}
    if place == "up":
        found |= {"at.up is none", "from left", "from right"}
    return found


def is_bad(place, line, kind="first", ups=True):
    before, behind, number = AROUND[place]
    told = fate(kind, before + line + behind, ups)
    assert told[0] != "BadLine" or told[1] == number, told
    return told[0] == "BadLine"


def is_bad_test(place, test, kind="first"):
    return is_bad(place, f"if {test}\nend", kind)


def is_bad_head(word, test):
    return fate("first", f"{word} {test}\nend") == ("BadLine", 1)


class Lines(unittest.TestCase):
    def test_every_row_of_up_to_three_words(self):
        opening = ("if", "else", "end", "down", "up")
        for many in (1, 2, 3):
            for words in itertools.product(WORDS, repeat=many):
                if words[0] not in opening:
                    line = " ".join(words)
                    self.assertEqual(is_bad("outside", line), line not in LINES["outside"], line)

    def test_every_row_of_up_to_two_words_in_loops(self):
        for place in ("down", "up"):
            for many in (1, 2):
                for words in itertools.product(WORDS, repeat=many):
                    line = " ".join(words)
                    if words[0] not in ("if", "else", "end"):
                        self.assertEqual(is_bad(place, line), line not in LINES[place], (place, line))

    def test_lines_of_one_place_in_another_one(self):
        for place, other in itertools.permutations(LINES, 2):
            for line in LINES[other] - LINES[place]:
                self.assertTrue(is_bad(place, line), (place, line))

    def test_no_kind_and_no_ups_changes_the_forms(self):
        for kind in ALL_KINDS:
            for place in ("outside", "down"):
                for line in ("at = at.up", "new.up = none", "out gets new", "go left", "key is at", "at = key", "stop"):
                    for ups in (True, False)[:1 if kind in ("next", "take", "leave") else 2]:
                        self.assertEqual(is_bad(place, line, kind, ups), line not in LINES[place])

    def test_spaces(self):
        for line in (" quit", "quit ", "at  = root", "at =  root", "at= root", "at =root", "at=root", " ", "",
                     "at = root ", "at = at. left", "at = at .left", "root  = none", "out gets  at"):
            self.assertTrue(is_bad("outside", line), line)
        for line in (" stop", "stop ", "go  left", "keep  par", "go left ", ""):
            self.assertTrue(is_bad("down", line), line)

    def test_longer_rows(self):
        for line in ("quit quit", "at = root root", "at = root and", "at gets par low", "at = par = low", "at = not par"):
            self.assertTrue(is_bad("outside", line), line)
        for line in ("go left right", "keep par top", "stop now", "go left and right"):
            self.assertTrue(is_bad("down", line), line)

    def test_new_and_key_are_never_set(self):
        for line in ("new = at", "new = root", "new = none", "new = new", "key = at", "key = new", "at = key",
                     "at gets key", "key gets at", "at.left = key", "root = key", "key.left = at"):
            self.assertTrue(is_bad("outside", line, "put"), line)

    def test_links_lead_to_no_link_and_to_no_root(self):
        for line in ("at.left = at.right", "at.left = root", "root = root", "root = at.left", "at gets root",
                     "at gets none", "at gets at.left", "at.left gets par", "root gets at", "none = at", "root.left = at"):
            self.assertTrue(is_bad("outside", line), line)

    def test_a_register_twice_in_a_line_is_right(self):
        for line in ("at = at", "at gets at", "at.left = at", "root = at", "at = at.left", "new gets new"):
            self.assertFalse(is_bad("outside", line), line)


class Said(unittest.TestCase):
    """What the lines say, on which the playing of codes stands."""

    def test_lines(self):
        for place, line, said in (
                ("outside", "at = par", ("read", "at", ("par", None))),
                ("outside", "low = none", ("read", "low", ("none", None))),
                ("outside", "low = root", ("read", "low", ("root", None))),
                ("outside", "out = new.up", ("read", "out", ("new", "up"))),
                ("outside", "root = none", ("write", ("root", None), "none")),
                ("outside", "new.left = par", ("write", ("new", "left"), "par")),
                ("outside", "top gets new", ("gets", "top", "new")),
                ("outside", "quit", ("quit",)), ("down", "quit", ("quit",)), ("up", "stop", ("stop",)),
                ("down", "go right", ("go", "right")), ("up", "go up", ("go", "up")), ("up", "keep low", ("keep", "low")),
                ("down", "else", ("else",)), ("up", "end", ("end",)), ("outside", "keep low", None)):
            self.assertEqual(read_line(line, place), said)

    def test_tests(self):
        for place, line, said in (
                ("outside", "if at.left is none", ("if", ((True, ("same", ("at", "left"), ("none", None))),))),
                ("outside", "if not root is low", ("if", ((False, ("same", ("root", None), ("low", None))),))),
                ("outside", "down key < at", ("down", ((True, ("less", "key", "at")),))),
                ("outside", "up not from left and at < low",
                 ("up", ((False, ("from", "left")), (True, ("less", "at", "low"))))),
                ("up", "if from right and not key is at", ("if", ((True, ("from", "right")), (False, ("equal", "at")))))):
            self.assertEqual(read_line(line, place), said)

    def test_blocks(self):
        code = Code("find", "if at is none\nat = root\nelse\nquit\nend\ndown at is none\ngo left\nend")
        first, second = code.body
        self.assertEqual([row.number for row in (first, second)], [1, 6])
        self.assertEqual([[row.number for row in block] for block in (first.body, first.other)], [[2], [4]])
        self.assertEqual([[row.number for row in block] for block in (second.body, second.other)], [[7], []])
        self.assertEqual(second.body[0].said, ("go", "left"))


class Tests(unittest.TestCase):
    def test_every_part_with_three_words(self):
        terms = HOLDERS + LINK_TERMS + ["root", "none", "key", "left", "root.left", "key.left", "not", ""]
        for place in LINES:
            right = parts(place)
            for one, sign, other in itertools.product(terms, ("is", "<", "=", "from"), terms):
                part = f"{one} {sign} {other}"
                if one != "not":
                    self.assertEqual(is_bad_test(place, part), part not in right, (place, part))

    def test_parts_with_not(self):
        for place in LINES:
            for part in parts(place):
                self.assertFalse(is_bad_test(place, "not " + part), (place, part))
                self.assertTrue(is_bad_test(place, "not not " + part), (place, part))

    def test_heads_of_loops_count_as_in_them(self):
        for word in ("down", "up"):
            for part in parts("outside") | parts("up"):
                self.assertEqual(is_bad_head(word, part), part not in parts(word), (word, part))
                self.assertEqual(is_bad_head(word, "not at is none and not " + part), part not in parts(word))

    def test_from_stands_in_loops_up_alone(self):
        for side in ("left", "right"):
            self.assertEqual([is_bad_test(place, f"from {side}") for place in ("outside", "down", "up")],
                             [True, True, False])
        for part in ("from up", "from", "from at", "from left right", "left", "is from left"):
            self.assertTrue(is_bad_test("up", part), part)

    def test_several_parts(self):
        for test in ("at is par and par is low", "not at is par and not par is low and at < low", "key is at and key < at",
                     "root is none and not root is none and root is none and root is none"):
            self.assertFalse(is_bad_test("outside", test), test)
        for test in ("at is par and", "and at is par", "at is par and and par is low", "at is par or par is low",
                     "at is par par is low", "and", "not", "not and not", "at is par and not", "at is par  and par is low",
                     "at is par and at is at", "at is at and at is par", "at is not par", "at not is par", "(at is par)",
                     "at is par and par is low and key is new", "at < par < low", "at", "at is", "is par"):
            self.assertTrue(is_bad_test("outside", test), test)

    def test_a_test_is_wanted(self):
        for word in ("if", "down", "up"):
            for line in (word, word + " "):
                self.assertEqual(fate("first", line + "\nend"), ("BadLine", 1))

    def test_the_two_are_different(self):
        for test in ("at is at", "none is none", "root is root", "at.left is at.left", "new is new", "at < at",
                     "key < key", "new < new"):
            self.assertTrue(is_bad_test("outside", test), test)
        for test in ("at is at.left", "at.left is at.right", "root is none", "none is root", "none is at.up", "key < new"):
            self.assertFalse(is_bad_test("outside", test), test)

    def test_key_is_a_register(self):
        for test in ("key is new", "key is none", "key is root", "key is at.left", "at is key", "key is key"):
            self.assertTrue(is_bad_test("outside", test, "find"), test)
        for place in ("down", "up"):
            self.assertFalse(is_bad_test(place, "key is at"))
            for name in REGISTERS[1:]:
                self.assertTrue(is_bad_test(place, f"key is {name}"))

    def test_in_loops_at_is_one_of_two(self):
        for place in ("down", "up"):
            for test in ("par < low", "key < par", "new < par", "par < key", "new < key", "par is none", "none is at",
                         "root is none", "at is root", "at is par", "par.left is none", "at.left is par"):
                self.assertTrue(is_bad_test(place, test), (place, test))
        self.assertTrue(is_bad_test("down", "at.up is none"))
        self.assertFalse(is_bad_test("up", "at.up is none"))


class Blocks(unittest.TestCase):
    def check(self, rows, line):
        for kind in ("find", "next"):
            self.assertEqual(fate(kind, text_of(rows)), ("BadLine", line), rows)

    def test_a_missing_end(self):
        self.check("if at is none", 2)
        self.check("if at is none; else", 3)
        self.check("out = par; if at is none; if par is none; end; out = par", 6)
        self.check("down at is none", 2)
        self.check("up at is none; go up", 3)
        self.check("down at is none; if at is none; end; go left", 5)
        self.check("down at is none; if at is none; else; stop; end", 6)
        self.check("if at is none; down at is none; end", 4)

    def test_an_end_too_many(self):
        self.check("end", 1)
        self.check("quit; end; end", 2)
        self.check("if at is none; end; end", 3)
        self.check("if at is none; else; end; end; quit", 4)
        self.check("down at is none; end; end", 3)
        self.check("down at is none; if at is none; end; end; end", 5)

    def test_else_without_an_if(self):
        self.check("else", 1)
        self.check("down at is none; else; end", 2)
        self.check("if at is none; end; else; end", 3)
        self.check("if at is none; else; else; end", 3)
        self.check("if at is none; down at is none; else; end; end", 3)
        self.check("down at is none; if at is none; else; stop; else; end; end", 5)

    def test_words_behind_else_and_end(self):
        self.check("if at is none; else if par is none; end", 2)
        self.check("if at is none; else ; end", 2)
        self.check("if at is none; end if", 2)

    def test_no_loop_in_a_loop(self):
        for inner, outer in itertools.product(("down", "up"), repeat=2):
            self.check(f"{outer} at is none; {inner} at is none; end; end", 2)
            self.check(f"{outer} at is none; if at is none; else; {inner} at is none; end; end; end", 4)

    def test_behind_a_loop_lines_stand_outside_again(self):
        self.check("down at is none; end; go left", 3)
        self.check("down at is none; end; if at is none; stop; end", 4)
        self.check("if at is none; down at is none; end; keep par; end", 4)

    def test_the_first_bad_line_is_told(self):
        self.check("quit; nothing; at = key; end", 2)
        self.check("if at is none; x; y", 2)
        self.check("out = par; ; ", 2)
        self.check("quit; ", 2)

    def test_bad_lines_on_no_way(self):
        self.check("quit; go left", 2)
        self.check("if at is none; quit; else; quit; end; if from left; end", 6)
        self.check("quit; down at is none; stop; at = root; end", 4)

    def test_bad_lines_ahead_of_limits(self):
        self.check("if new is none; end; at.left = at; down at is none; end; what", 6)

    def test_blocks_without_lines(self):
        for rows in ("if at is par; end", "if at is par; else; end", "if at is par; if at is low; else; end; else; end",
                     "at = root; down at is none; end", "at = root; down at is none; if at is none; else; end; end"):
            self.assertEqual(fate("find", text_of(rows)), "right")
        for rows in ("up at is none; end", "at = at.up; up not from left; if from right; else; end; end"):
            self.assertEqual(fate("next", text_of(rows)), "right")

    def test_no_signs_and_no_lines(self):
        for kind in ALL_KINDS:
            self.assertEqual(fate(kind, ""), "right")
            self.assertEqual(fate(kind, "\n"), ("BadLine", 1))
            self.assertEqual(fate(kind, " "), ("BadLine", 1))
            self.assertEqual(fate(kind, "quit\n"), ("BadLine", 2))
            self.assertEqual(fate(kind, "\nquit"), ("BadLine", 1))
