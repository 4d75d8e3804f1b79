"""Uses on trees of every shape: points [18] and [19], and "nextcode/uses.py" of the interface."""

import unittest

from nextcode.errors import NoLine
from nextcode.play import play
from nextcode.trees import is_told
from nextcode.uses import all_stations, case_for_line, case_for_side, case_for_station, used_lines, used_sides
from tests.brute import disagreements
from tests.helper import odd_values
from tests.samples import AFTER, CORNERS, FIND, FIRST, KEEPING_ALL, MOVING, NEXT, PUT, SLIPS, TAKER, code_of

BOTH = (False, True)


class AgainstPlays(unittest.TestCase):
    """Held against the plays on all trees of up to four nodes with all that can be handed."""

    def test_right_codes(self):
        for kind, ups, rows in KEEPING_ALL + MOVING:
            self.assertEqual(disagreements(code_of(kind, ups, rows), 4), [], (kind, ups, rows))

    def test_codes_with_slips(self):
        for kind, ups, rows, _, _ in SLIPS:
            self.assertEqual(disagreements(code_of(kind, ups, rows), 4), [], (kind, ups, rows))

    def test_corners(self):
        for kind, ups, rows in CORNERS:
            self.assertEqual(disagreements(code_of(kind, ups, rows), 4), [], (kind, ups, rows))

    def test_right_codes_on_five_nodes(self):
        for kind, ups, rows in (("find", False, FIND), ("next", True, NEXT), ("take", True, TAKER)):
            self.assertEqual(disagreements(code_of(kind, ups, rows), 5), [], rows)


class Lines(unittest.TestCase):
    def test_lines_that_are_used(self):
        self.assertEqual(used_lines(code_of("put", True, PUT)), (1, 2, 3, 4, 5, 7, 10, 11, 12, 14, 15, 17))
        self.assertEqual(used_lines(code_of("next", True, NEXT)), (1, 2, 3, 4, 6, 9, 10, 11, 14))
        self.assertEqual(used_lines(code_of("find", True, "")), ())
        self.assertEqual(used_lines(code_of("find", True, "quit; at = root")), (1,))

    def test_lines_that_are_not(self):
        # The walk ends at none, so that at is none behind it.
        rows = FIRST + "; if not at is none; out = none; end; if at is none; quit; end; out = none"
        code = code_of("first", True, rows)
        self.assertEqual(used_lines(code), (1, 2, 3, 4, 6, 9, 10))
        self.assertEqual([case_for_line(code, line) for line in (5, 7, 8, 11, 12)], [None] * 5)
        self.assertEqual([case_for_side(code, 6, side) is None for side in BOTH], [False, True])
        self.assertEqual([case_for_side(code, 9, side) is None for side in BOTH], [True, False])

    def test_what_can_not_be_in_any_tree(self):
        for test in ("at.left is root", "at.left is at", "at.up is at", "low is at", "par < at", "at is top and not par is top",
                     "par.left is at.right and not at.left is none", "root is none"):
            rows = f"at = root; par = at; top = at; if at is none; quit; end; if {test}; out = at; end"
            code = code_of("first", True, rows)
            self.assertEqual((8 in used_lines(code), (7, True) in used_sides(code)), (False, False), test)
            self.assertEqual((case_for_line(code, 8), case_for_side(code, 7, True)), (None, None), test)
        code = code_of("put", True, "at = root; if at is none; quit; end; if not new < at and not at < new; quit; end")
        self.assertEqual(used_lines(code), (1, 2, 3, 5))

    def test_the_root_far_above(self):
        # Between the handed node and the root there may be nodes, one, or none.
        walk = "low = at; up not at is none; keep par; go up; end; "
        for test in ("root is low.up", "par is low.up", "root is low.up and low.up is par", "not root is low.up",
                     "par.left is low.up", "par.left is low.up and low < par", "par.left is low and root is low.up"):
            code = code_of("next", True, walk + f"if not low is par and {test}; out = low; end")
            self.assertIn(7, used_lines(code), test)
            self.assertEqual(disagreements(code, 4), [], test)
        code = code_of("leave", True, "if root is at.up; quit; end; up not at is none; keep out; go up; end")
        self.assertEqual(disagreements(code, 4), [])

    def test_a_line_that_goes_beyond_is_used(self):
        code = code_of("first", True, "at = root; out = at.left; quit")
        self.assertEqual(used_lines(code), (1, 2, 3))
        code = code_of("first", True, "at = none; out = at.left; quit")
        self.assertEqual((used_lines(code), case_for_line(code, 3)), ((1, 2), None))
        code = code_of("first", True, "if at.left is none; out = at; end; quit")
        self.assertEqual((used_lines(code), used_sides(code)), ((1,), ()))
        self.assertEqual((case_for_line(code, 4), case_for_side(code, 1, True)), (None, None))

    def test_lines_that_need_large_trees(self):
        rows = "at = root; " + "if not at is none; at = at.left; " * 6 + "if not at is none; out = at" + "; end" * 7
        code = code_of("find", False, rows)
        case = case_for_line(code, 15)
        self.assertIn(15, play(code, *case).lines())
        self.assertIn(14, used_lines(code))

    def test_lines_without_a_test(self):
        code = code_of("after", True, AFTER)
        for line in (1, 4, 5, 6, 7, 8, 9):
            self.assertEqual([case_for_side(code, line, side) for side in BOTH], [None, None])
        self.assertEqual(used_sides(code), ((2, False), (2, True), (3, False), (3, True)))

    def test_cases(self):
        for kind, ups, rows in KEEPING_ALL:
            code = code_of(kind, ups, rows)
            for line in used_lines(code):
                case = case_for_line(code, line)
                self.assertTrue(type(case) is tuple and len(case) == 2 and is_told(case[0]))

    def test_no_such_line(self):
        code = code_of("find", True, FIND)
        for line in odd_values() + [None, True, False, "1", "at", -1, 0, 13, 14, 10 ** 30, 1.0, (1,)]:
            if type(line) is int and 1 <= line <= 12:
                continue
            for ask in (lambda: case_for_line(code, line), lambda: case_for_side(code, line, True)):
                with self.assertRaises(NoLine) as caught:
                    ask()
                self.assertIs(caught.exception.line, line)
        with self.assertRaises(NoLine):
            case_for_line(code_of("find", True, ""), 1)

    def test_arguments_by_name(self):
        code = code_of("find", True, FIND)
        self.assertEqual((used_lines(code=code), used_sides(code=code)), (used_lines(code), used_sides(code)))
        self.assertEqual(case_for_line(line=1, code=code), case_for_line(code, 1))
        self.assertEqual(case_for_side(side=True, line=2, code=code), case_for_side(code, 2, True))
        station = all_stations(code=code)[0]
        self.assertEqual(case_for_station(station=station, code=code), case_for_station(code, station))


class Stations(unittest.TestCase):
    def stations(self, kind, rows, ups=True):
        return sorted(all_stations(code_of(kind, ups, rows)), key=repr)

    def test_all_of_a_walk_to_the_left(self):
        told = [(2, how, left, right, None) for how in (None, "left") for left in BOTH for right in BOTH]
        told += [(2, None, None, None, None), (2, "left", None, None, None)]
        self.assertEqual(self.stations("first", FIRST), sorted(told, key=repr))

    def test_all_of_a_walk_by_a_key(self):
        told = [(2, how, left, right, sign) for how in (None, "left", "right") for left in BOTH for right in BOTH
                for sign in (-1, 0, 1)]
        told += [(2, how, None, None, None) for how in (None, "left", "right")]
        self.assertEqual(self.stations("find", FIND, False), sorted(told, key=repr))
        # An item that is put in has the key of no other one.
        self.assertEqual(self.stations("put", PUT), sorted([one for one in told if one[4] != 0], key=repr))

    def test_the_side_of_the_key(self):
        # The walk goes to the left of a node that the key is greater than, and stays there.
        rows = "at = root; down not at is none; if at < key; go left; else; quit; end; end"
        told = [(2, how, left, right, sign) for how in (None, "left") for left in BOTH for right in BOTH
                for sign in ((-1, 0, 1) if how is None else (1,))]
        told += [(2, None, None, None, None), (2, "left", None, None, None)]
        self.assertEqual(self.stations("find", rows), sorted(told, key=repr))

    def test_all_of_a_walk_upward(self):
        rows = "up not at is none; go up; end"
        told = [(1, None, left, right, None) for left in BOTH for right in BOTH] + [(1, None, None, None, None)]
        told += [(1, "left", True, right, None) for right in BOTH] + [(1, "right", left, True, None) for left in BOTH]
        self.assertEqual(self.stations("next", rows), sorted(told, key=repr))

    def test_all_of_a_loop_that_ends_at_a_test(self):
        rows = "at = root; if at is none; quit; end; down not at.left is none; go left; end"
        told = [(5, how, left, right, None) for how in (None, "left") for left in BOTH for right in BOTH]
        self.assertEqual(self.stations("first", rows), sorted(told, key=repr))

    def test_an_endless_loop(self):
        rows = "at = root; down not at is none; if at.left is none; keep out; else; go left; end; end"
        code = code_of("first", True, rows)
        self.assertIsNotNone(case_for_station(code, (2, "left", False, True, None)))
        self.assertIsNone(case_for_station(code, (2, "left", None, None, None)))

    def test_loops_that_are_never_met(self):
        self.assertEqual(self.stations("first", "quit; at = root; down at is none; end"), [])
        self.assertEqual(self.stations("first", ""), [])

    def test_cases(self):
        for kind, ups, rows in KEEPING_ALL:
            code = code_of(kind, ups, rows)
            for station in all_stations(code):
                self.assertIn(station, play(code, *case_for_station(code, station)).stations())

    def test_what_is_no_station(self):
        code = code_of("find", True, FIND)
        self.assertIsNotNone(case_for_station(code, (2, "left", True, True, 1)))
        for station in ((2, "left", 1, True, 1), (2, "left", True, True, True), (2, "up", True, True, 1), (), (2,),
                        (3, "left", True, True, 1), (2, "left", True, True, None), (2, "left", None, True, 1),
                        (2, "left", True, True, 1, None), (2, None, None, None, 0), (2, ["left"], True, True, 1),
                        [2, "left", True, True, 1], None, 2):
            self.assertIsNone(case_for_station(code, station), station)

    def test_new_lists(self):
        code = code_of("find", True, FIND)
        all_stations(code).clear()
        self.assertEqual(len(all_stations(code)), 39)
