"""Verdicts on trees of every shape: points [16] and [17], and "nextcode/verdicts.py" of the interface."""

import unittest

from nextcode.errors import BadPromise
from nextcode.play import play
from nextcode.promises import PROMISES
from nextcode.trees import all_items, height, is_told
from nextcode.verdicts import keeps, kept, least_case
from tests.brute import cases_for, wrong_verdicts
from tests.helper import ALL_KINDS, odd_values
from tests.samples import KEEPING_ALL, MOVING, NEXT, PUT, SLIPS, TAKER, code_of


def fewest_nodes(code, most):
    """The fewest nodes with which each promise is broken, of at most so many, by playing all cases."""
    found = {}
    for case in cases_for(code.kind, most):
        for promise in play(code, *case).broken:
            found.setdefault(promise, len(all_items(case[0])))
    return found


class AgainstPlays(unittest.TestCase):
    """Held against the plays on all trees of up to four nodes with all that can be handed."""

    def agrees(self, code, most=4):
        self.assertEqual(wrong_verdicts(code, most, fewest_nodes(code, most)), [], (code.kind, code.ups, code.text))

    def test_right_codes(self):
        for kind, ups, rows in KEEPING_ALL:
            code = code_of(kind, ups, rows)
            self.assertEqual(kept(code), PROMISES, (kind, ups, rows))
            self.agrees(code)

    def test_codes_that_move_an_item(self):
        for kind, ups, rows in MOVING:
            code = code_of(kind, ups, rows)
            self.assertEqual(kept(code), PROMISES[:5], (kind, ups, rows))
            self.assertEqual(len(all_items(least_case(code, "steady")[0])), 3)
            self.agrees(code)

    def test_codes_with_slips(self):
        for kind, ups, rows, promise, many in SLIPS:
            code = code_of(kind, ups, rows)
            self.agrees(code)
            if promise is None:
                self.assertEqual(kept(code), PROMISES, rows)
            else:
                self.assertEqual(len(all_items(least_case(code, promise)[0])), many, rows)

    def test_five_nodes(self):
        for kind, ups, rows in (KEEPING_ALL[0], KEEPING_ALL[-1], MOVING[0]):
            self.agrees(code_of(kind, ups, rows), 5)


class LeastCases(unittest.TestCase):
    """Promises that are broken on trees of some size and shape alone."""

    def least(self, kind, rows, promise, ups=True):
        code = code_of(kind, ups, rows)
        case = least_case(code, promise)
        self.assertEqual(keeps(code, promise), case is None)
        if case is None:
            return None
        self.assertTrue(is_told(case[0]) and type(case) is tuple and len(case) == 2)
        self.assertIn(promise, play(code, *case).broken)
        return len(all_items(case[0])), height(case[0])

    def test_chains_of_reads(self):
        for many in range(1, 8):
            rows = "at = root; " + "if not at is none and not at.left is none; at = at.left; " * many
            self.assertEqual(self.least("find", rows + "root = none" + "; end" * many, "items", False), (many + 1,) * 2)

    def test_twelve_reads(self):
        rows = "at = root; if at is none; quit; end" + "; at = at.left; if at is none; quit; end" * 5 + "; at = at.left" * 7
        self.assertEqual(self.least("find", rows, "inside", False), (6, 6))

    def test_reads_behind_a_loop(self):
        up = "if not at is none; at = at.up; end; "
        rows = "at = root; down not at.left is none and not at is none; keep par; go left; end"
        self.assertEqual(self.least("first", rows, "inside"), (0, 0))
        rows = "at = root; down not at is none; keep par; go left; end; at = par; " + up * 3
        rows += "if not at is none; root = at; end"
        self.assertEqual(self.least("first", rows, "tree"), (5, 5))
        rows = "top = at; up not at is none; keep par; go up; end; at = par; if at is top; quit; end; "
        rows += "if at.left is top; quit; end; at = at.left; if at is none; quit; end; if at.right is top; quit; end; "
        rows += "if top < at and not at.left is none; root = none; end"
        self.assertEqual(self.least("take", rows.replace("root = none", "at = none; at = at.left"), "inside"), (3, 3))

    def test_how_far_a_loop_must_go(self):
        rows = ("at = root; down not at is none; keep par; go left; end; if not par is none; at = par.up; "
                "if not at is none; ")
        self.assertEqual(self.least("first", rows + "if not at.right is none; out = none; out = out.up; end; end; end",
                                    "inside"), (3, 2))
        rows = rows.replace("at = par.up; if not at is none", "at = par.up; if not at is root and not at is none")
        self.assertEqual(self.least("first", rows + "out = none; out = out.up; end; end", "inside"), (3, 3))

    def test_the_key_in_a_part_that_is_not_read(self):
        self.assertEqual(self.least("find", "out = none", "out"), (1, 1))
        self.assertEqual(self.least("after", "at = root; if at is none; quit; end; if key < at; out = at; end", "out"),
                         (2, 2))
        rows = "at = root; if at is none; root = new; quit; end; if new < at; at.left = new; else; at.right = new; end"
        self.assertEqual(self.least("put", rows, "items", False), (2, 2))
        rows = ("at = root; if at is none; root = new; quit; end; if new < at; new.right = at; else; new.left = at; end; "
                "root = new")
        self.assertEqual(self.least("put", rows, "tree", False), (2, 2))
        self.assertIsNone(self.least("put", rows, "items", False))
        rows = "at = root; if at is none; quit; end; if key is at; root = none; end"
        self.assertEqual(self.least("drop", rows, "items"), (2, 2))

    def test_above_the_handed_node(self):
        self.assertEqual(self.least("take", "low = at.left; if low is none; low = at.right; end; root = low; "
                                            "if not low is none; low.up = none; end", "items"), (2, 2))
        self.assertEqual(self.least("next", "out = at.right; if not out is none; quit; end", "out"), (2, 2))
        self.assertEqual(self.least("next", "at.up = none", "tree"), (2, 2))
        self.assertEqual(self.least("next", "root = at", "tree"), (2, 2))
        self.assertEqual(self.least("next", "if not at is root; out = none; out = out.up; end", "inside"), (2, 2))
        self.assertEqual(self.least("next", "if root is at.up and at.right is none and at.left is none; out = none; "
                                            "out = out.up; end", "inside"), (2, 2))

    def test_a_link_past_a_node(self):
        # The up link of the last node is set right only if none lies between it and the root.
        rows = "at = root; low = at; down not at is none; keep par; go left; end; if not par is none and not par is low; "
        self.assertEqual(self.least("first", rows + "par.up = low; end", "tree"), (3, 3))
        self.assertEqual(self.least("first", rows + "low.left = par; end", "items", False), (3, 3))
        self.assertEqual(self.least("first", rows + "low.left = par; end", "tree"), (3, 3))

    def test_ends(self):
        rows = ("at = root; down not at is none; if key < at; if at.left is none; keep out; else; go left; end; else; "
                "go right; end; end")
        self.assertEqual(self.least("find", rows, "ends"), (1, 1))
        self.assertEqual(self.least("find", rows, "out"), (1, 1))
        rows = "at = at.up; up not at is none; if from right; keep out; else; go up; end; end"
        self.assertEqual(self.least("next", rows, "ends"), (3, 3))

    def test_rings_and_nodes_met_twice(self):
        self.assertEqual(self.least("put", "new.left = new; root = new", "tree"), (0, 0))
        rows = ("at = root; if at is none; root = new; quit; end; if at.left is at.right; quit; end; par = at.left; "
                "at.right = par")
        self.assertEqual(self.least("put", rows, "tree"), (2, 2))

    def test_no_line(self):
        for kind in ALL_KINDS:
            code = code_of(kind, True, "")
            broken = {"find": ("out",), "after": ("out",), "first": ("out",), "next": ("out",)}.get(kind, ("items",))
            self.assertEqual(kept(code), tuple(one for one in PROMISES if one not in broken), kind)

    def test_what_is_handed(self):
        kinds = {"find": int, "after": int, "first": type(None), "next": int, "put": tuple, "take": int, "drop": int,
                 "leave": int}
        for kind, wanted in kinds.items():
            for promise in PROMISES:
                case = least_case(code_of(kind, True, ""), promise)
                if case is not None:
                    self.assertIs(type(case[1]), wanted)


class Arguments(unittest.TestCase):
    def test_promises_of_any_kind(self):
        code = code_of("put", True, PUT)
        for promise in odd_values() + [None, True, False, "", "Inside", "insides", "in", "left", b"tree", ("tree",)]:
            for ask in (keeps, least_case):
                with self.assertRaises(BadPromise) as caught:
                    ask(code, promise)
                self.assertIs(caught.exception.promise, promise)

    def test_arguments_by_name(self):
        code = code_of("take", True, TAKER)
        self.assertEqual((keeps(code=code, promise="tree"), keeps(promise="out", code=code)), (True, True))
        self.assertEqual((kept(code=code), least_case(promise="steady", code=code)), (PROMISES, None))

    def test_answers_are_the_same_each_time(self):
        code = code_of("next", True, NEXT.replace("from left", "from right"))
        first = [(keeps(code, one), least_case(code, one)) for one in PROMISES] + [kept(code)]
        play(code, least_case(code, "out")[0], 0)
        self.assertEqual([(keeps(code, one), least_case(code, one)) for one in PROMISES] + [kept(code)], first)
        self.assertEqual((code, len(code)), (code_of("next", True, code.text.replace("\n", "; ")), 14))
