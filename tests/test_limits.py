"""The limits of point [13], each by itself: which line is told by Refused."""

import unittest

from tests.helper import ALL_KINDS, SEARCHES, STANDING, fate, text_of

DOWN = "down not at is none; end"
UP = "up not at is none; end"
# The lines that stand ahead of a loop down, for each kind.
STEPS = {kind: "at = root" if kind in SEARCHES else "at = at.left" for kind in ALL_KINDS}


class Limits(unittest.TestCase):
    def check(self, kinds, rows, line, ups=True):
        """The rows, of these kinds, are refused at the line, or right where it is None."""
        for kind in [kinds] if type(kinds) is str else kinds:
            text = text_of(rows.replace("STEP", STEPS[kind]).replace("DOWN", DOWN).replace("UP", UP))
            told = fate(kind, text, ups)
            self.assertEqual(told, "right" if line is None else ("Refused", line), (kind, text))

    def places(self, kinds, setting, line, ups=True):
        """A line outside loops that is refused by itself, in an if, in an else, on one of two ways, and on none."""
        self.check(kinds, setting, 1, ups)
        self.check(kinds, f"out = par; {setting}", 2, ups)
        self.check(kinds, f"if par is none; {setting}; end", 2, ups)
        self.check(kinds, f"if par is none; quit; else; {setting}; end", 4, ups)
        self.check(kinds, f"if par is none; quit; end; {setting}", 4, ups)
        self.check(kinds, f"if par is none; out = par; else; if at is none; {setting}; end; end", 5, ups)
        self.check(kinds, f"quit; {setting}", 2 if line else None, ups)
        self.check(kinds, f"if par is none; quit; else; quit; end; {setting}", 6 if line else None, ups)
        self.check(kinds, f"if par is none; quit; {setting}; end; out = par", 3 if line else None, ups)


class WordsOfKinds(Limits):
    def test_new_for_put_alone(self):
        for row in ("par = new", "new.left = par", "par.left = new", "root = new", "new gets par", "par gets new",
                    "if new is none; end", "if not par is none and new.left is none; end", "if new < par; end",
                    "if par < new; end"):
            self.check("put", row, None)
            self.check("put", row, None, False)
            self.places([kind for kind in ALL_KINDS if kind != "put"], row, True)

    def test_key_for_find_after_and_drop_alone(self):
        for row in ("if key < par; end", "if par < key; end", "if key is par; end", "if at is none and not key is out; end"):
            self.check(("find", "after", "drop"), row, None)
            self.check(("find", "after", "drop"), row, None, False)
            self.places(("first", "next", "put", "take", "leave"), row, True)

    def test_key_and_new_are_for_no_kind_both(self):
        for row in ("if key < new; end", "if new < key; end"):
            self.places(ALL_KINDS, row, True)

    def test_up_for_trees_with_ups_alone(self):
        for row in ("par = at.up", "at.up = par", "out = low.up", "par.up = none", "if at.up is none; end",
                    "if par is low.up; end", "if at is none and not par.up is none; end"):
            self.check(ALL_KINDS, row, None)
            self.places(SEARCHES, row, True, False)
        self.places("put", "new.up = par", True, False)

    def test_other_words_without_ups(self):
        self.check(SEARCHES, "par = at.left; par.right = at; if at.left is none; end; root = at", None, False)

    def test_words_in_loops(self):
        self.check(("find", "after", "drop"), "at = root; down key < at; if key is at; stop; end; go left; end", None)
        self.check(("first", "put"), "at = root; down key < at; go left; end", 2)
        self.check(("first", "put"), "at = root; down at is none; if key is at; stop; end; go left; end", 3)
        self.check("put", "at = root; down at < new; go left; end", None)
        self.check(("find", "after", "first", "drop"), "at = root; down at is none and at < new; go left; end", 2)
        for row in ("up key < at", "up at is none and not key is at", "up at < new"):
            self.check(STANDING, f"{row}; go up; end", 1)
        self.check(STANDING, "at = at.left; down new < at; go left; end", 2)
        self.check(STANDING, "at = at.left; down at is none; if at is none; else; if key is at; end; end; end", 5)

    def test_words_on_no_way_through_a_loop(self):
        self.check(("first", "put"), "at = root; down at is none; stop; if key is at; end; end", 4)
        self.check(STANDING, "up at is none; quit; if at < new; end; end", 3)
        self.check(("find", "first"), "quit; down at < new; end", 2)
        self.check("put", "quit; down at is none; if key < at; end; end", 3)

    def test_loops_up_are_for_trees_with_ups(self):
        for rows, line in (("UP", 1), ("quit; UP", 2), ("quit; up at.up is none; go up; end", 2),
                           ("quit; up at is none; if from left; end; go up; end", 2)):
            self.check(SEARCHES, rows, line, False)

    def test_the_least_of_these_words(self):
        self.check("first", "par = low.up; par = new; if key is at; end", 1, False)
        self.check("first", "par = low.up; par = new; if key is at; end", 2, True)
        self.check("find", "par = low.up; par = new; if key is at; end", 2, True)
        self.check("put", "par = low.up; par = new; if key is at; end", 3, True)


class Writes(Limits):
    rows = ("at.left = par", "par.right = none", "top.up = top", "root = low", "root = none", "at gets par")

    def test_behind_loops_and_without_loops(self):
        for row in self.rows:
            self.check(ALL_KINDS, row, None)
            self.check(ALL_KINDS, f"STEP; DOWN; {row}", None)
            self.check(STANDING, f"UP; {row}", None)
            self.check(SEARCHES, f"at = root; DOWN; at = at.right; DOWN; {row}", None)

    def test_none_ahead_of_a_loop(self):
        for row in self.rows:
            self.check(ALL_KINDS, f"{row}; STEP; DOWN", 3)
            self.check(STANDING, f"{row}; UP", 2)
            self.check(ALL_KINDS, f"if par is none; {row}; end; STEP; DOWN", 5)
            self.check(ALL_KINDS, f"if par is none; else; {row}; end; STEP; DOWN; {row}", 6)
            self.check(ALL_KINDS, f"{row}; if par is none; STEP; DOWN; end", 4)
            self.check(ALL_KINDS, f"{row}; if par is none; else; STEP; DOWN; end; quit", 5)
            self.check(ALL_KINDS, f"if par is none; {row}; else; STEP; DOWN; end", None)
            self.check(ALL_KINDS, f"if par is none; {row}; quit; end; STEP; DOWN", None)
            self.check(ALL_KINDS, f"{row}; quit; STEP; DOWN", None)

    def test_none_between_loops(self):
        for row in self.rows:
            self.check(SEARCHES, f"at = root; DOWN; {row}; at = at.left; DOWN", 6)
            self.check(SEARCHES, f"at = root; DOWN; if par is none; {row}; end; at = at.left; DOWN", 8)
            self.check(SEARCHES, f"{row}; at = root; DOWN; at = at.left; DOWN", 3)

    def test_new_is_written_behind_loops(self):
        for row in ("new.left = at", "root = new", "at gets new"):
            self.check("put", f"at = root; DOWN; {row}", None)
            self.check("put", f"{row}; at = root; DOWN", 3)


class SearchingLoops(Limits):
    def test_no_loops_up(self):
        for rows, line in (("UP", 1), ("at = root; UP", 2), ("out = par; up at.up is none; go up; end", 2),
                           ("at = root; DOWN; at = at.left; UP", 5), ("at = root; DOWN; at = at.up; UP", 5),
                           ("if at is none; UP; end", 2), ("if at is none; else; out = par; UP; end", 4),
                           ("at = root; DOWN; UP; DOWN", 4)):
            self.check(SEARCHES, rows, line)

    def test_loops_up_on_no_way(self):
        self.check(SEARCHES, "quit; UP", None)
        self.check(SEARCHES, "if at is none; quit; else; quit; end; up at.up is none; go up; end", None)

    def test_at_most_two_loops_down(self):
        two = "at = root; DOWN; at = at.left; DOWN"
        self.check(SEARCHES, two, None)
        self.check(SEARCHES, f"{two}; at = at.left; DOWN", 8)
        self.check(SEARCHES, f"{two}; DOWN", 7)
        self.check(SEARCHES, f"{two}; if at is none; at = at.right; DOWN; end", 9)
        self.check(SEARCHES, f"{two}; if at is none; else; at = at.right; DOWN; end", 10)
        self.check(SEARCHES, f"{two}; quit; at = at.left; DOWN", None)
        self.check(SEARCHES, f"{two}; if at is none; quit; at = at.left; DOWN; end", None)

    def test_two_of_three_loops_on_each_way(self):
        self.check(SEARCHES, "at = root; if par is none; DOWN; at = at.left; else; at = at.left; end; DOWN", 9)
        self.check(SEARCHES, "if par is none; at = root; DOWN; at = at.left; DOWN; else; at = root; DOWN; end", None)
        self.check(SEARCHES, "at = root; DOWN; if at is none; at = at.left; DOWN; else; at = at.right; DOWN; end", None)
        self.check(SEARCHES, "at = root; DOWN; if at is none; at = at.left; DOWN; end; at = at.left; DOWN", 10)

    def test_at_is_the_root_ahead_of_the_first(self):
        self.check(SEARCHES, "DOWN", 1)
        self.check(SEARCHES, "at = par; DOWN", 2)
        self.check(SEARCHES, "par = root; DOWN", 2)
        self.check(SEARCHES, "at = none; DOWN", 2)
        self.check(SEARCHES, "if at is none; at = root; end; DOWN", 4)
        self.check(SEARCHES, "if at is none; else; at = root; end; out = par; DOWN", 6)
        self.check(SEARCHES, "if at is none; at = root; else; at = root; end; DOWN", None)
        self.check(SEARCHES, "if at is none; at = root; else; quit; end; DOWN", None)
        self.check(SEARCHES, "quit; DOWN", None)

    def test_at_is_the_root_once(self):
        self.check(SEARCHES, "at = root; at = root; DOWN", 3)
        self.check(SEARCHES, "at = root; if at is none; at = root; end; DOWN", 5)
        self.check(SEARCHES, "at = root; if at is none; at = root; quit; end; DOWN", None)
        self.check(SEARCHES, "at = root; DOWN; at = root; at = at.left; DOWN", 6)
        self.check(SEARCHES, "at = root; DOWN; at = root; DOWN", 5)
        self.check(SEARCHES, "at = root; DOWN; at = root; at = root; par = root", None)
        self.check(SEARCHES, "at = root; at = root", None)

    def test_a_step_between_two_loops(self):
        self.check(SEARCHES, "at = root; DOWN; at = at.right; DOWN", None)
        self.check(SEARCHES, "at = root; DOWN; DOWN", 4)
        self.check(SEARCHES, "at = root; DOWN; at = par.left; DOWN", 5)
        self.check(SEARCHES, "at = root; DOWN; par = at.left; DOWN", 5)
        self.check(SEARCHES, "at = root; DOWN; at = at.up; DOWN", 5)
        self.check(SEARCHES, "at = root; DOWN; if at is none; at = at.left; end; DOWN", 7)
        self.check(SEARCHES, "at = root; DOWN; if at is none; at = at.left; else; at = at.right; end; DOWN", None)
        self.check(SEARCHES, "at = root; DOWN; if at is none; quit; else; at = at.right; end; DOWN", None)
        self.check(SEARCHES, "at = root; DOWN; if at is none; else; quit; end; DOWN", 8)

    def test_one_step_alone(self):
        self.check(SEARCHES, "at = root; DOWN; at = at.left; at = at.right; DOWN", 6)
        self.check(SEARCHES, "at = root; DOWN; at = at.left; if at is none; at = at.left; end; DOWN", 8)
        self.check(SEARCHES, "at = root; DOWN; at = at.up; at = at.left; DOWN", 6)
        self.check(SEARCHES, "at = root; DOWN; at = at.left; at = at.left; at = at.up", None)

    def test_no_step_ahead_of_the_first(self):
        for link in ("left", "right", "up"):
            self.check(SEARCHES, f"at = root; at = at.{link}; DOWN", 3)
            self.check(SEARCHES, f"at = at.{link}; at = root; DOWN", 3)
            self.check(SEARCHES, f"at = at.{link}; DOWN", 2)


class StandingLoops(Limits):
    def test_no_line_reads_the_root(self):
        for name in ("at", "par", "top", "low", "out"):
            self.places(STANDING, f"{name} = root", None)
            self.check(STANDING, f"{name} = root; at = at.left; DOWN", 1)
            self.check(STANDING, f"UP; {name} = root", 3)
            self.check(SEARCHES, f"at = root; DOWN; {name} = root", None)

    def test_the_root_may_be_asked_and_written(self):
        self.check(STANDING, "if root is none; end; if par is root; end; root = par; root = none", None)

    def test_at_most_one_loop(self):
        self.check(STANDING, "at = at.left; DOWN; at = at.left; DOWN", 5)
        self.check(STANDING, "at = at.left; DOWN; UP", 4)
        self.check(STANDING, "UP; at = at.right; DOWN", 4)
        self.check(STANDING, "UP; out = par; UP", 4)
        self.check(STANDING, "UP; if at is none; else; UP; end", 5)
        self.check(STANDING, "if at is none; UP; else; at = at.left; DOWN; end", None)
        self.check(STANDING, "if at is none; UP; else; par = at; end; UP", 7)
        self.check(STANDING, "if at is none; UP; quit; else; par = at; end; UP", None)
        self.check(STANDING, "UP; quit; UP", None)

    def test_a_step_ahead_of_a_loop_down(self):
        for link in ("left", "right"):
            self.check(STANDING, f"at = at.{link}; DOWN", None)
            self.check(STANDING, f"at = at.{link}; at = at.left; DOWN", 3)
            self.check(STANDING, f"at = at.{link}; if at is none; at = at.{link}; end; DOWN", 5)
            self.check(STANDING, f"if at is none; else; at = at.{link}; end; DOWN", 5)
        self.check(STANDING, "DOWN", 1)
        self.check(STANDING, "at = at.up; DOWN", 2)
        self.check(STANDING, "at = at.up; at = at.left; DOWN", 3)
        self.check(STANDING, "par = at.left; DOWN", 2)
        self.check(STANDING, "at = par.left; DOWN", 2)
        self.check(STANDING, "if at is none; at = at.left; else; at = at.right; end; DOWN", None)
        self.check(STANDING, "if at is none; at = at.left; else; quit; end; DOWN", None)

    def test_perhaps_a_step_ahead_of_a_loop_up(self):
        self.check(STANDING, "UP", None)
        self.check(STANDING, "at = at.up; UP", None)
        self.check(STANDING, "if at is none; at = at.up; end; UP", None)
        self.check(STANDING, "at = at.up; at = at.up; UP", 3)
        self.check(STANDING, "at = at.up; if at is none; at = at.up; end; UP", 5)
        for row in ("at = at.left", "at = at.right", "at = par.up", "at = par", "at = none", "at = at"):
            self.check(STANDING, f"{row}; UP", 2)
            self.check(STANDING, f"if par is none; else; {row}; end; UP", 5)


class AheadOfLoops(Limits):
    def test_at_is_not_set_from_anything_else(self):
        for row in ("at = at", "at = par", "at = none", "at = par.left", "at = top.up"):
            self.check(ALL_KINDS, f"{row}; STEP; DOWN", 3)
            self.check(ALL_KINDS, f"STEP; {row}; DOWN", 3)
            self.check(ALL_KINDS, f"if par is none; {row}; end; STEP; DOWN", 5)
            self.check(SEARCHES, f"at = root; DOWN; {row}; at = at.left; DOWN", 6)
            self.check(ALL_KINDS, f"STEP; DOWN; {row}", None)
            self.check(ALL_KINDS, f"if par is none; {row}; else; STEP; DOWN; end", None)
            self.check(ALL_KINDS, f"{row}; quit; STEP; DOWN", None)
        self.check("put", "at = root; at = new; DOWN", 3)

    def test_registers_from_registers_and_none(self):
        for name in ("par", "top", "low", "out"):
            for source in ("at", "par", "out", "none"):
                self.check(ALL_KINDS, f"{name} = {source}; STEP; DOWN", None)
                self.check(STANDING, f"{name} = {source}; at = at.up; UP", None)
                self.check(STANDING, f"{name} = {source}; UP", None)
                self.check(SEARCHES, f"at = root; {name} = {source}; DOWN; {name} = {source}; at = at.left; DOWN", None)

    def test_registers_from_nothing_else(self):
        for row in ("par = at.left", "out = low.right", "top = top.up"):
            self.check(ALL_KINDS, f"{row}; STEP; DOWN", 3)
            self.check(STANDING, f"{row}; UP", 2)
            self.check(ALL_KINDS, f"if at is none; {row}; end; STEP; DOWN", 5)
            self.check(ALL_KINDS, f"{row}; if at is none; else; STEP; DOWN; end", 5)
            self.check(SEARCHES, f"at = root; DOWN; {row}; at = at.right; DOWN", 6)
            self.check(ALL_KINDS, f"STEP; DOWN; {row}", None)
            self.check(ALL_KINDS, f"if at is none; {row}; else; STEP; DOWN; end", None)
        for name in ("par", "top", "low", "out"):
            self.check(SEARCHES, f"{name} = root; at = root; DOWN", 3)
            self.check(SEARCHES, f"at = root; DOWN; {name} = root; at = at.left; DOWN", 6)
            self.check("put", f"at = root; {name} = new; DOWN", 3)
            self.check("put", f"at = root; DOWN; {name} = new; at = at.left; DOWN", 6)
            self.check("put", f"at = root; DOWN; {name} = new", None)

    def test_none_between_a_step_and_its_loop(self):
        for row in ("par = at", "out = none", "low = low"):
            for link in ("left", "right"):
                self.check(STANDING, f"at = at.{link}; {row}; DOWN", 3)
                self.check(STANDING, f"{row}; at = at.{link}; if at is none; {row}; end; DOWN", 6)
                self.check(STANDING, f"at = at.{link}; if at is none; {row}; quit; end; DOWN", None)
                self.check(STANDING, f"if at is none; {row}; else; at = at.{link}; DOWN; end", None)
                self.check(SEARCHES, f"at = root; DOWN; at = at.{link}; {row}; DOWN", 6)
            self.check(STANDING, f"at = at.up; {row}; UP", 3)
            self.check(STANDING, f"if at is none; at = at.up; end; {row}; UP", 5)
            self.check(STANDING, f"at = at.up; {row}", None)
            self.check(SEARCHES, f"at = root; {row}; DOWN", None)

    def test_tests_may_be_asked(self):
        asked = "if at.left is none and not par is root; else; end"
        self.check(ALL_KINDS, f"{asked}; STEP; {asked}; DOWN", None)
        self.check(STANDING, f"{asked}; at = at.up; {asked}; UP", None)
        self.check(SEARCHES, f"at = root; DOWN; {asked}; at = at.left; {asked}; DOWN", None)


class ReadsAndWrites(Limits):
    def test_twelve_and_thirteen(self):
        for row in ("par = at.left", "at = at.right", "low = out.up", "at.left = par", "root = par", "par gets low"):
            twelve = "; ".join([row] * 12)
            self.check(ALL_KINDS, twelve, None)
            self.check(ALL_KINDS, f"{twelve}; {row}", 13)
            self.check(ALL_KINDS, f"{twelve}; {row}; {row}", 13)
            self.check(ALL_KINDS, f"STEP; DOWN; {twelve}", None)
            self.check(ALL_KINDS, f"STEP; DOWN; {twelve}; {row}", 16)
            self.check(STANDING, f"at = at.up; UP; {twelve}", None)
            self.check(STANDING, f"at = at.up; UP; {twelve}; {row}", 16)
            self.check(SEARCHES, f"at = root; DOWN; at = at.left; DOWN; {twelve}", None)
            self.check(SEARCHES, f"at = root; DOWN; at = at.left; DOWN; {twelve}; {row}", 19)

    def test_reads_and_writes_count_apart(self):
        self.check(ALL_KINDS, "; ".join(["par = at.left; at.left = par"] * 12), None)
        self.check(ALL_KINDS, "; ".join(["par = at.left; at.left = par"] * 13), 25)
        self.check(ALL_KINDS, "; ".join(["at.left = par; par = at.left"] * 13), 25)

    def test_all_writes_count(self):
        four = "; ".join(["at.left = par", "root = par", "par gets at", "root = none"] * 3)
        for row in ("at.left = none", "root = low", "low gets par"):
            self.check(ALL_KINDS, f"{four}; {row}", 13)
        self.check(ALL_KINDS, four, None)

    def test_what_is_no_read_of_a_link(self):
        self.check(ALL_KINDS, "; ".join(["par = at"] * 30 + ["low = none"] * 30), None)
        self.check(SEARCHES, "; ".join(["par = root"] * 20), None)
        self.check(ALL_KINDS, "; ".join(["if at.left is none and par.right is at.left; end"] * 7 + ["par = at.left"] * 12), None)
        self.check("put", "; ".join(["par = new"] * 20), None)

    def test_reads_and_writes_of_new_count(self):
        self.check("put", "; ".join(["par = new.left"] * 13), 13)
        self.check("put", "; ".join(["new.left = none"] * 12 + ["root = new"]), 13)

    def test_the_step_counts_where_no_loop_is_behind(self):
        twelve = "; ".join(["par = at.left"] * 12)
        self.check(STANDING, f"at = at.left; if par is none; DOWN; end; {twelve}", 17)
        self.check(STANDING, f"at = at.left; if par is none; DOWN; else; quit; end; {twelve}", None)
        self.check(SEARCHES, f"at = root; if par is none; DOWN; end; {twelve}", None)
        self.check(SEARCHES, f"at = root; DOWN; at = at.left; if par is none; DOWN; end; {twelve}", 20)

    def test_each_way_counts_by_itself(self):
        six = "; ".join(["par = at.left"] * 6)
        self.check(ALL_KINDS, f"if at is none; {six}; {six}; else; {six}; {six}; end", None)
        self.check(ALL_KINDS, f"{six}; if at is none; {six}; else; {six}; end", None)
        self.check(ALL_KINDS, f"{six}; if at is none; {six}; end; out = at.left", 15)
        self.check(ALL_KINDS, f"{six}; if at is none; else; {six}; end; out = at.left", 16)
        self.check(ALL_KINDS, f"{six}; if at is none; {six}; quit; end; out = at.left", None)
        self.check(ALL_KINDS, f"{six}; if at is none; {six}; low = at.up; else; {six}; low = at.up; end", 14)
        self.check(ALL_KINDS, f"{six}; {six}; quit; out = at.left", None)
        self.check(ALL_KINDS, f"{six}; {six}; if at is none; quit; par = at.left; end", None)

    def test_ahead_of_a_loop_it_is_the_loop(self):
        thirteen = "; ".join(["at.left = par"] * 13)
        self.check(ALL_KINDS, f"{thirteen}; STEP; DOWN", 15)
        self.check(ALL_KINDS, f"{thirteen}; if at is none; quit; end; STEP; DOWN", 13)


class Goes(Limits):
    def check_in(self, rows, line):
        """The rows of a loop; the line is counted from its head as 1."""
        far = None if line is None else line + 1
        self.check(ALL_KINDS, f"STEP; down not at is none; {rows}; end", far)
        self.check(ALL_KINDS, f"STEP; if par is none; down not at is none; {rows}; end; end", line and far + 1)
        self.check(ALL_KINDS, f"STEP; if par is none; else; down not at is none; {rows}; end; end", line and far + 2)
        self.check(ALL_KINDS, f"STEP; quit; down not at is none; {rows}; end", None)
        self.check(SEARCHES, f"at = root; DOWN; at = at.right; down not at is none; {rows}; end", line and far + 3)
        turned = rows.replace("go left", "go up").replace("go right", "go up")
        self.check(STANDING, f"out = par; up not at is none; {turned}; end", far)
        self.check(SEARCHES, f"quit; up not at is none; {turned}; end", None)

    def test_a_go_ends_its_round(self):
        self.check_in("go left", None)
        self.check_in("keep par; go right", None)
        for row in ("go left", "go right", "keep out", "stop", "quit", "if at is none; end"):
            self.check_in(f"go left; {row}", 3)
            self.check_in(f"keep par; go right; {row}; keep par", 4)

    def test_behind_an_if(self):
        self.check_in("if at is none; go left; else; go right; end", None)
        self.check_in("if at is none; go left; else; go right; end; keep par", 7)
        self.check_in("if at is none; go left; end; go right", 5)
        self.check_in("if at is none; else; go left; end; stop", 6)
        self.check_in("if at is none; go left; keep par; else; go right; end", 4)
        self.check_in("if at is none; keep par; else; go right; quit; end", 6)
        self.check_in("if at is none; if at is none; go left; end; end; keep par", 7)
        self.check_in("if at is none; if at is none; go left; end; keep par; end", 6)

    def test_on_ways_that_end(self):
        self.check_in("stop; go left; keep par", None)
        self.check_in("quit; go left; go left", None)
        self.check_in("if at is none; stop; else; go left; end", None)
        self.check_in("if at is none; stop; go left; end; keep par", None)
        self.check_in("if at is none; stop; else; quit; end; go left; keep par", None)
        self.check_in("if at is none; go left; else; stop; end; keep par", 7)
        self.check_in("if at is none; stop; else; keep par; end; go left; keep par", 8)
        self.check_in("if at is none; keep par; else; stop; end; go left; keep par", 8)
        self.check_in("if at is none; quit; end; go left", None)

    def test_many_ifs_in_a_loop(self):
        # Each if doubles the ways through the loop, and ifs in loops are not counted.
        self.check_in("; ".join(["if at is none; end"] * 24 + ["go left"]), None)
        self.check_in("; ".join(["if at is none; go left; end"] * 2 + ["if at is none; end"] * 20), 5)


class Compared(Limits):
    def test_no_register_in_the_first_loop_of_a_search(self):
        for name in ("par", "top", "low", "out"):
            for test in (f"at < {name}", f"{name} < at", f"not at is none and not at < {name}"):
                self.check(SEARCHES, f"at = root; down {test}; go left; end", 2)
                self.check(SEARCHES, f"at = root; down not at is none; if {test}; end; go left; end", 3)
                self.check(SEARCHES, f"at = root; down not at is none; if at is none; else; if {test}; end; end; end", 5)
                self.check(SEARCHES, f"at = root; down not at is none; keep par; if {test}; end; go left; end", 4)
                self.check(SEARCHES, f"quit; down {test}; end", None)

    def test_in_later_loops_and_standing_ones(self):
        for name in ("par", "top", "low", "out"):
            for test in (f"at < {name}", f"{name} < at", f"not at is none and not at < {name}"):
                self.check(SEARCHES, f"at = root; DOWN; at = at.left; down {test}; go left; end", None)
                self.check(SEARCHES, f"at = root; DOWN; at = at.left; down at is none; if {test}; end; end", None)
                self.check(STANDING, f"at = at.left; down {test}; go left; end", None)
                self.check(STANDING, f"up {test}; if {test}; end; go up; end", None)

    def test_the_first_loop_on_some_way(self):
        later = "down at < low; go left; end"
        self.check(SEARCHES, f"at = root; if at is none; DOWN; at = at.left; end; {later}", 7)
        self.check(SEARCHES, f"if at is none; at = root; DOWN; at = at.left; else; at = root; end; {later}", 9)
        self.check(SEARCHES, f"if at is none; at = root; else; at = root; DOWN; at = at.left; end; {later}", 9)
        self.check(SEARCHES, f"if at is none; at = root; DOWN; at = at.left; else; quit; end; {later}", None)
        self.check(SEARCHES, f"at = root; if at is none; {later}; else; DOWN; end", 3)

    def test_key_and_new_in_every_loop(self):
        for test in ("at < key", "key < at", "key is at"):
            for kind in ("find", "after", "drop"):
                self.check(kind, f"at = root; down {test}; go left; end; at = at.left; down {test}; go left; end", None)
        self.check("put", "at = root; down at < new; go left; end; at = at.left; down new < at; go left; end", None)

    def test_outside_loops_all_registers(self):
        self.check(ALL_KINDS, "if par < low and at < out; end; STEP; if at < par; end; DOWN; if par < low; end", None)

    def both_orders(self, kinds, ahead, head, line):
        """A register compared and kept in a loop whose head stands at the line."""
        for test in ("at < low", "low < at", "not at is none and at < low"):
            go = "go up" if head == "up" else "go left"
            rest = f"{go}; end"
            self.check(kinds, f"{ahead}{head} {test}; keep par; {rest}", None)
            self.check(kinds, f"{ahead}{head} {test}; keep low; {rest}", line + 1)
            self.check(kinds, f"{ahead}{head} {test}; keep par; keep low; keep low; {rest}", line + 2)
            self.check(kinds, f"{ahead}{head} at is none; if {test}; keep low; end; {rest}", line + 2)
            self.check(kinds, f"{ahead}{head} at is none; keep low; if {test}; end; {rest}", line + 2)
            self.check(kinds, f"{ahead}{head} at is none; if at is none; keep low; else; if {test}; end; end; end", line + 4)
            self.check(kinds, f"{ahead}{head} at is none; if {test}; else; if at is none; keep low; end; end; end", line + 4)
            self.check(kinds, f"{ahead}{head} at is none; keep low; if at < par; end; if {test}; end; end", line + 4)
            self.check(kinds, f"{ahead}{head} at is none; keep low; keep par; if at < par and {test}; end; end", line + 3)
            self.check(kinds, f"{ahead}{head} at is none; stop; keep low; if {test}; end; end", None)
            self.check(kinds, f"{ahead}{head} {test}; if at is none; stop; keep low; end; {rest}", None)
            self.check(kinds, f"{ahead}{head} at is none; keep low; quit; if {test}; end; end", None)
            self.check(kinds, f"quit; {ahead}{head} {test}; keep low; {rest}", None)

    def test_compared_and_kept(self):
        self.both_orders(STANDING, "", "up", 1)
        self.both_orders(STANDING, "at = at.up; ", "up", 2)
        self.both_orders(STANDING, "at = at.right; ", "down", 2)
        self.both_orders(SEARCHES, f"at = root; {DOWN}; at = at.left; ", "down", 5)

    def test_kept_in_another_loop(self):
        self.check(SEARCHES, "at = root; down at is none; keep low; go left; end; at = at.left; down at < low; end", None)
        self.check(STANDING, "if at is none; up at < low; end; else; up at is none; keep low; go up; end; end", None)

    def test_the_key_and_kept(self):
        self.check(("find", "after", "drop"), "at = root; down key < at; keep par; keep top; keep low; keep out; end", None)


class TheLeast(Limits):
    def test_of_several_faults(self):
        self.check(STANDING, "par = root; low = root; DOWN", 1)
        self.check(STANDING, "DOWN; par = root", 1)
        self.check(SEARCHES, "UP; DOWN; DOWN", 1)
        self.check(SEARCHES, "at.left = par; DOWN; UP", 2)
        self.check(SEARCHES, "at = root; down at < par; go left; keep par; end; UP", 2)
        self.check(SEARCHES, "at = root; down at is none; go left; keep par; if at < par; end; end", 4)
        self.check(("first", "put"), "at = root; down at is none; go left; keep par; end; if key is at; end", 4)
        self.check(("first", "put"), "if key is at; end; DOWN", 1)

    def test_of_two_ways(self):
        self.check(STANDING, "if at is none; DOWN; else; par = root; end", 2)
        self.check(STANDING, "if at is none; at = at.up; UP; else; par = root; DOWN; end", 6)
        self.check(SEARCHES, "at.left = par; at = root; if at is none; DOWN; else; DOWN; end", 4)
        self.check(SEARCHES, "at = root; if at is none; DOWN; else; at.left = par; DOWN; end", 7)
        self.check(SEARCHES, "if at is none; at = root; end; if par is none; DOWN; end", 5)
