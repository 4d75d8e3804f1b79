"""The most comparisons for a height: points [20] and [31], and "nextcode/costs.py" of the interface."""

import unittest

from nextcode.costs import most
from nextcode.errors import BadSize, TreeError
from nextcode.play import play
from nextcode.trees import all_items, height
from nextcode.verdicts import kept
from tests.brute import TREES_BY_HEIGHT, cases_for, handed_for, most_compares
from tests.helper import ALL_KINDS, STANDING, odd_values
from tests.made import comparing, freely_made, with_slips
from tests.samples import (
    AFTER, AFTER_TWICE, CORNERS, DROP, FIND, FIND_LATE, FIRST, KEEPING_ALL, LEAST_RIGHT, MOVER, MOVING, NEXT, NEXT_LESS,
    PUT, REFILLING, SLIPS, TAKER, code_of)

HUGE = (1, 2, 3, 7, 40, 10 ** 9 + 7, 10 ** 60, 10 ** 61 - 1)


class Trees(unittest.TestCase):
    def test_the_trees_that_are_tried(self):
        # With all heights up to n: 1, 2, 5, 26, 677.
        self.assertEqual([len(TREES_BY_HEIGHT[n]) for n in range(5)], [1, 2, 5, 26, 677])
        self.assertEqual([max(map(height, TREES_BY_HEIGHT[n])) for n in range(5)], [0, 1, 2, 3, 4])


class AgainstPlays(unittest.TestCase):
    """Held against the plays on all trees of small height with all that can be handed."""

    def agrees(self, code, high=3):
        for n in range(1 if code.kind in STANDING else 0, high + 1):
            self.assertEqual(most(code, n), most_compares(code, n), (n, code.kind, code.ups, code.text))

    def test_right_codes(self):
        for kind, ups, rows in KEEPING_ALL + MOVING + REFILLING:
            self.agrees(code_of(kind, ups, rows))

    def test_codes_with_slips(self):
        for kind, ups, rows, _, _ in SLIPS:
            self.agrees(code_of(kind, ups, rows))

    def test_corners(self):
        for kind, ups, rows in CORNERS:
            self.agrees(code_of(kind, ups, rows))

    def test_height_four(self):
        for kind, ups, rows in (("find", False, FIND), ("next", True, NEXT_LESS), ("first", True, FIRST)):
            self.agrees(code_of(kind, ups, rows), 4)

    def made(self, make, numbers):
        found = [code for code in [make(number) for number in numbers] if code is not None]
        self.assertGreater(len(found), len(numbers) // 4)
        return found

    def test_right_codes_with_slips(self):
        for code in self.made(with_slips, range(3000, 3400)):
            self.agrees(code)

    def test_codes_that_are_freely_made(self):
        for code in self.made(freely_made, range(3000, 3200)):
            self.agrees(code)

    def test_codes_that_compare_by_what_they_see(self):
        codes = self.made(comparing, range(400))
        self.assertGreater(sum(most(code, 3) > 2 for code in codes), 100)
        for kind in ALL_KINDS:
            self.assertTrue(kind == "first" or any(code.kind == kind and most(code, 3) > 3 for code in codes), kind)
        for code in codes:
            self.agrees(code)

    def test_height_four_by_what_is_seen(self):
        codes = [code for code in self.made(comparing, range(5000, 5060)) if most(code, 4) > 0]
        for code in codes[:8]:
            self.agrees(code, 4)

    def test_plays_that_are_not_done_count(self):
        ends = set()
        for code in self.made(comparing, range(200)):
            best = most(code, 2)
            for tree in TREES_BY_HEIGHT[2] if best else []:
                for handed in handed_for(code.kind, len(all_items(tree))):
                    done = play(code, tree, handed)
                    if done.compares == best and not any(
                            play(code, *case).compares == best and play(code, *case).ended == "done"
                            for case in cases_for(code.kind, 3) if height(case[0]) < 3):
                        ends.add(done.ended)
        self.assertLessEqual({"beyond", "endless"}, ends)


class ByHand(unittest.TestCase):
    """Held against what can be reckoned for heights that no tree can be tried for."""

    def each(self, kind, rows, reckon, ups=True, sizes=HUGE):
        code = code_of(kind, ups, rows)
        for n in sizes:
            self.assertEqual(most(code, n), reckon(n), (n, rows))

    def test_right_codes(self):
        self.each("find", FIND, lambda n: 2 * n)
        self.each("find", FIND_LATE, lambda n: n + 1, False)
        self.each("after", AFTER, lambda n: n)
        self.each("after", AFTER_TWICE, lambda n: 2 * n)
        self.each("first", FIRST, lambda n: 0)
        self.each("put", PUT, lambda n: n + 1)
        self.each("drop", DROP, lambda n: 2 * n)
        self.each("next", NEXT, lambda n: 0)
        self.each("next", NEXT_LESS, lambda n: n)
        self.each("take", TAKER, lambda n: 0)
        self.each("take", MOVER, lambda n: 0)

    def test_the_empty_tree_and_one_node(self):
        for kind, rows, told in (("find", FIND, (0, 2)), ("find", FIND_LATE, (0, 2)), ("after", AFTER, (0, 1)),
                                 ("put", PUT, (0, 2)), ("drop", DROP, (0, 2)), ("first", FIRST, (0, 0))):
            self.assertEqual((most(code_of(kind, True, rows), 0), most(code_of(kind, True, rows), 1)), told)
        self.assertEqual(most(code_of("next", True, NEXT_LESS), 1), 1)
        for kind in ALL_KINDS:
            self.assertEqual(most(code_of(kind, True, ""), 1), 0)

    def test_turns_that_cost_more_than_others(self):
        ask = "if at < key; end; "
        rows = f"at = root; down not at is none; if at < key; {ask}{ask}go right; else; go left; end; end"
        self.each("find", rows, lambda n: 3 * n)
        # The key is never found, and the walk stays on the dear side of it.
        rows = f"at = root; down not at is none; if at < key; {ask * 4}go left; else; go left; end; end"
        self.each("find", rows, lambda n: 5 * n)
        # On the dear side of the key the walk ends.
        rows = f"at = root; down not at is none; if at < key; {ask * 4}stop; else; go left; end; end"
        self.each("find", rows, lambda n: n + 4)
        # The walk leaves the key at the first node, or goes on to where it is cheaper.
        rows = "at = root; down not at is none; if key < at; if at < key; end; go left; else; go left; end; end"
        self.each("find", rows, lambda n: 2 * n)

    def test_what_hangs_beside_the_way(self):
        both = "not at.left is none and not at.right is none"
        rows = f"at = root; down not at is none; if {both} and key < at; end; if key < at; go left; else; go right; end; end"
        self.each("after", rows, lambda n: 2 * n - 1)
        rows = "at = root; down not at is none; if not at.right is none and key < at; end; go left; end"
        self.each("after", rows, lambda n: n - 1)
        rows = "at = root; down not at is none; if at.right is none and key < at; end; go left; end"
        self.each("after", rows, lambda n: n)
        # What a node costs hangs on something that is read of it later.
        rows = ("at = root; top = at; down not at is none; if at.right is none; if key < at; end; if key < at; end; "
                "if key < at; end; end; keep par; go left; end; if par is none; quit; end; par = par.up; "
                "if par is none; quit; end; low = par.right; if low is none; quit; end; ")
        self.each("find", rows + "; ".join(["if key < low; end"] * 2), lambda n: 3 * n)
        self.each("find", rows + "; ".join(["if key < low; end"] * 4), lambda n: 3 * n + 1 if n > 1 else 3)
        rows = rows.replace("if at.right is none; if key", "if not at.right is none; if key")
        self.each("find", rows + "if key < low; end", lambda n: 3 * n - 2 if n > 1 else 0)
        # The last node costs most with something beside it, for which there must be room.
        rows = ("at = root; down not at is none; if at.left is none; if not at.right is none; if key < at; end; if key < at; "
                "end; if key < at; end; end; else; if key < at; end; end; go left; end")
        self.each("after", rows, lambda n: n + 1 if n > 1 else 0)

    def test_two_loops(self):
        seek = "at = root; down not at is none; if key is at; stop; end; if key < at; go left; else; go right; end; end; "
        seek += "if at is none; quit; end; top = at; "
        rows = seek + "at = at.right; down not at is none; if top < at; end; if key < at; end; if key is at; end; go left; end"
        self.each("drop", rows, lambda n: 3 * n - 2 if n > 1 else 2)
        # The first loop goes past the key, and costs more than the second one.
        rows = seek + LEAST_RIGHT + "if key < at; end; if key < at; end; if key < at; end"
        self.each("drop", rows, lambda n: 2 * n)

    def test_what_is_read_below(self):
        # Behind the walk there are at least two nodes more, or the walk is the longer one.
        rows = ("at = root; down not at is none; if key is at; stop; end; go left; end; if at is none; quit; end; "
                "low = at.left; if low is none; quit; end; low = low.right; if low is none; quit; end; "
                + "; ".join(["if key < low; end"] * 3))
        self.each("find", rows, lambda n: n + 1 if n > 2 else n)
        # A path from the root that is not the one of the walk.
        rows = ("at = root; par = at; down not at is none; if key < at; go left; else; stop; end; end; if par is none; "
                "quit; end; low = par.right; low = low.right; low = low.right; "
                + "; ".join(["if key < low; end"] * 3))
        self.each("find", rows, lambda n: n if n < 4 else n + 3)

    def test_two_stretches_that_cost_differently(self):
        # Three comparisons at a node ahead of the one with the key, two at a node behind it, one at it; and six more if
        # there are three nodes more to its right, so that no more than three are behind it.
        rows = ("at = root; down not at is none; if key is at; keep par; go left; else; if key < at; if key < at; end; "
                "go left; else; go left; end; end; end; low = par.right; low = low.right; low = low.right; "
                + "; ".join(["if key < low; end"] * 6))
        self.each("find", rows, lambda n: 3 * n + 1 if n > 3 else 3 * n)

    def test_a_new_node_beside_the_empty_tree(self):
        code = code_of("put", False, "par = new; if par < new; end; if new < at; end")
        self.assertEqual([most(code, n) for n in range(3)], [1, 1, 1])

    def test_above_the_handed_node(self):
        rows = "low = at; up not at is none; if from left and low < at; if at < low; end; end; go up; end"
        self.each("next", rows, lambda n: 2 * (n - 1))
        rows = "low = at; up not at is none; if low < at; quit; end; go up; end"
        self.each("take", rows, lambda n: n)
        rows = "if at.up is none; quit; end; low = at; at = at.up; up not at is none; if low < at; end; go up; end"
        self.each("next", rows, lambda n: n - 1)
        rows = "low = at; if at.up is none; quit; end; at = at.left; down not at is none; if at < low; end; go left; end"
        self.each("take", rows, lambda n: n - 2 if n > 2 else 0)

    def test_beyond_and_endless(self):
        rows = "at = root; down not at is none; if key < at; go left; else; end; end"
        self.each("find", rows, lambda n: n)
        rows = "at = root; down key < at; go left; end"
        self.each("find", rows, lambda n: n)
        rows = "at = root; down not at is none; keep par; go left; end; if not key < par and not key is par and par < low; end"
        self.each("find", rows, lambda n: 2)
        self.each("find", rows.replace("par < low", "par < at"), lambda n: 2)
        self.assertEqual(most(code_of("find", True, rows), 0), 0)
        self.each("find", rows.replace("not key < par", "key < par") + "; if key is par; end", lambda n: 2)

    def test_more_height_is_never_less(self):
        for number in range(200):
            code = comparing(number)
            if code is not None:
                told = [most(code, n) for n in range(1, 12)]
                self.assertEqual(told, sorted(told), code.text)
                # Behind small heights each node more costs the same.
                steps = [after - before for before, after in zip(told, told[1:])]
                self.assertEqual(most(code, 10 ** 60), told[-1] + steps[-1] * (10 ** 60 - 11))


class Large(unittest.TestCase):
    """Codes of as many lines, and ifs outside loops, as there may be."""

    def test_sixty_lines_and_seven_ifs(self):
        loop = ("if at.left is none; keep top; end; if at.right is none; keep out; end; if key < at; keep par; else; "
                "keep low; end; ")
        rows = ("at = root; down not at is none; if key is at; stop; end; " + loop + "if key < at; go left; else; go right; "
                "end; end; if at is none; quit; end; at = at.left; down not at is none; " + loop + "go right; end; "
                + "if not par is none; par = par.up; end; if not top is none; top = top.up; end; " * 3
                + "low = top; at = low")
        code = code_of("find", True, rows)
        self.assertEqual(len(code), 60)
        # Three comparisons at each node, if the key is at none of them.
        self.assertEqual(most(code, 10 ** 60), 3 * 10 ** 60)
        for n in range(4):
            self.assertEqual(most(code, n), most_compares(code, n))


class Sizes(unittest.TestCase):
    def test_no_heights(self):
        for kind in ALL_KINDS:
            code = code_of(kind, True, "out = at")
            for n in odd_values() + [None, True, False, "1", -1, -10 ** 60, 0, 1.0, (1,)]:
                if type(n) is int and n >= (1 if kind in STANDING else 0):
                    self.assertEqual(most(code, n), 0)
                    continue
                with self.assertRaises(BadSize) as caught:
                    most(code, n)
                self.assertIs(caught.exception.n, n)

    def test_it_is_a_tree_error(self):
        with self.assertRaises(TreeError):
            most(code_of("find", True, FIND), -1)

    def test_arguments_by_name(self):
        code = code_of("find", True, FIND)
        self.assertEqual((most(code=code, n=4), most(n=5, code=code)), (8, 10))

    def test_codes_stay_as_they_are(self):
        code = code_of("find", True, FIND)
        self.assertEqual([most(code, 3), most(code, 3), most(code, 10 ** 60)], [6, 6, 2 * 10 ** 60])
        self.assertEqual((code, len(kept(code))), (code_of("find", True, FIND), 6))
