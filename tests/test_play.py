"""Plays on told trees: points [9] to [15], and "nextcode/play.py" of the interface."""

import unittest

from nextcode.errors import BadHanded, BadTree
from nextcode.play import Play, play
from nextcode.trees import all_items, links, of_items, root_of
from tests.brute import TREES, cases_for
from tests.helper import ALL_KINDS, Sour, odd_values
from tests.samples import (
    AFTER, FIND, FIRST, KEEPING_ALL, MOVER, MOVING, NEXT, PUT, PUT_DOWN, TAKER, code_of)

FOUR = ((None, (1, 11), None), (4, 12), (None, (6, 13), (None, (9, 14), None)))
ONE = (None, (5, 7), None)


def run(kind, rows, tree=None, handed=None, ups=True):
    return play(code_of(kind, ups, rows), tree, handed)


def keys_of(tree):
    return [key for key, _ in all_items(tree)]


class RightCodes(unittest.TestCase):
    """What right codes do, on all trees of up to four nodes, held against sorted lists."""

    def each(self, kind, most=4):
        for one, ups, rows in KEEPING_ALL + MOVING:
            if one == kind:
                code = code_of(kind, ups, rows)
                for tree, handed in cases_for(kind, most):
                    done = play(code, tree, handed)
                    self.assertEqual(done.ended, "done", (rows, tree, handed))
                    yield tree, handed, done

    def told_key(self, done):
        return None if done.out is None else done.held()[done.out][0]

    def test_find(self):
        for tree, key, done in self.each("find"):
            self.assertEqual((self.told_key(done), done.told()), (key if key in keys_of(tree) else None, tree))

    def test_after(self):
        for tree, key, done in self.each("after"):
            greater = [one for one in keys_of(tree) if one > key]
            self.assertEqual((self.told_key(done), done.told()), (greater[0] if greater else None, tree))

    def test_first(self):
        for tree, _, done in self.each("first"):
            self.assertEqual((done.out, done.told()), (0 if tree else None, tree))

    def test_next(self):
        for tree, node, done in self.each("next"):
            last = node + 1 == len(keys_of(tree))
            self.assertEqual((done.out, done.told()), (None if last else node + 1, tree))

    def test_put(self):
        for tree, item, done in self.each("put"):
            self.assertEqual(all_items(done.told()), tuple(sorted(all_items(tree) + (item,))))
            self.assertEqual(done.held()[len(all_items(tree))], item)

    def left(self, tree, gone, done):
        """What is left without the items that are gone, and what the links say of it."""
        kept = [item for item in all_items(tree) if item not in gone]
        self.assertEqual([] if done.told() is None else list(all_items(done.told())), kept)
        numbers = {item[0]: node for node, item in done.held().items()}
        for node, beside in (links(done.told()) if done.told() else {}).items():
            self.assertTrue(all(one is None or 0 <= one < len(kept) for one in beside), numbers)

    def test_take(self):
        for tree, node, done in self.each("take"):
            self.left(tree, [all_items(tree)[node]], done)

    def test_drop(self):
        for tree, key, done in self.each("drop"):
            self.left(tree, [item for item in all_items(tree) if item[0] == key], done)

    def test_leave(self):
        for tree, node, done in self.each("leave"):
            item = all_items(tree)[node]
            self.left(tree, [item], done)
            greater = [one for one in keys_of(tree) if one > item[0]]
            self.assertEqual(self.told_key(done), greater[0] if greater else None)

    def test_no_such_play_breaks_anything(self):
        for kind in ALL_KINDS:
            for tree, handed, done in self.each(kind, 3):
                self.assertLessEqual(set(done.broken), {"steady"}, (tree, handed))

    def test_deep_and_large_trees(self):
        for many, tree in ((200, of_items([(3 * n, n) for n in range(200)])), (100, None), (101, None)):
            side = many % 2
            for n in range(many if tree is None else 0):
                item = (3 * n, n) if side else (-3 * n, n)
                tree = (tree, item, None) if side else (None, item, tree)
            items = all_items(tree)
            put = play(code_of("put", True, PUT), tree, (items[17][0] + 1, -1))
            self.assertEqual((len(all_items(put.told())), put.broken), (len(items) + 1, ()))
            for node in (0, 50, len(items) - 1):
                done = play(code_of("take", True, TAKER), tree, node)
                self.assertEqual(all_items(done.told()), items[:node] + items[node + 1:])
                told = play(code_of("next", True, NEXT), tree, node).out
                self.assertEqual(told, node + 1 if node + 1 < len(items) else None)


class Handed(unittest.TestCase):
    def fate(self, code, tree, handed):
        try:
            play(code, tree, handed)
        except BadTree as error:
            return "BadTree", error.tree is tree
        except BadHanded as error:
            return "BadHanded", error.handed is handed
        return "right"

    def test_what_can_be_handed(self):
        right = {"find": [0, 5, -10 ** 40], "after": [5, 6], "drop": [5, 10 ** 40], "first": [None], "next": [0],
                 "take": [0], "leave": [0], "put": [(4, 8), (6, 0), (-1, -1), (10 ** 40, 10 ** 40)]}
        for kind in ALL_KINDS:
            code = code_of(kind, True, "out = at")
            for handed in right[kind]:
                self.assertEqual(self.fate(code, ONE, handed), "right", (kind, handed))

    def test_what_can_not(self):
        values = odd_values() + [None, True, False, "5", (4, 8), [4, 8], (4,), (4, 8, 9), (True, 8), (4, False), (5, 8),
                                 (4, 7), (5, 7), ("4", 8), (4, 8.0), 0, 1, 5, -1, 2, 5.0, (None, (4, 8), None)]
        for kind in ALL_KINDS:
            code = code_of(kind, True, "out = at")
            for handed in values:
                if kind == "first":
                    can = handed is None
                elif kind == "put":
                    can = type(handed) is tuple and handed == (4, 8) and all(type(one) is int for one in handed)
                elif kind in ("next", "take", "leave"):
                    can = type(handed) is int and handed == 0
                else:
                    can = type(handed) is int
                self.assertEqual(self.fate(code, ONE, handed), "right" if can else ("BadHanded", True), (kind, handed))

    def test_nothing_can_be_handed_of_no_node(self):
        for kind in ("next", "take", "leave"):
            for handed in (0, 1, -1, None):
                self.assertEqual(self.fate(code_of(kind, True, ""), None, handed), ("BadHanded", True))

    def test_keys_and_marks_of_all_items(self):
        code = code_of("put", True, PUT)
        for key in (0, 1, 2, 4, 6, 9, 10):
            for mark in (10, 11, 12, 13, 14, 15):
                can = key not in (1, 4, 6, 9) and mark not in (11, 12, 13, 14)
                self.assertEqual(self.fate(code, FOUR, (key, mark)), "right" if can else ("BadHanded", True))

    def test_the_tree_comes_first(self):
        wrong = [0, (), "", [None, (1, 1), None], (None, (1, 1)), (None, [1, 1], None), (None, (1, True), None),
                 (ONE, (5, 8), None), (ONE, (6, 7), None), (None, (4, 8), (None, (3, 9), None)), False, Sour()]
        for kind in ALL_KINDS:
            for tree in wrong:
                for handed in (None, 0, (4, 8), Sour()):
                    self.assertEqual(self.fate(code_of(kind, True, ""), tree, handed), ("BadTree", True), (kind, tree))

    def test_arguments_by_name(self):
        code = code_of("find", True, FIND)
        done = play(code=code, tree=FOUR, handed=6)
        self.assertEqual((done.out, play(handed=6, tree=FOUR, code=code).out, isinstance(done, Play)), (2, 2, True))
        self.assertEqual(play(tree=None, code=code_of("first", True, FIRST)).out, None)

    def test_a_new_object_each_time(self):
        done = run("take", TAKER, FOUR, 1)
        before = (done.links(), done.held())
        done.links().clear()
        done.held()[0] = None
        done.links()[0] = None
        self.assertEqual((done.links(), done.held()), before)
        self.assertIsNot(done.links(), done.links())
        self.assertIsNot(done.held(), done.held())


class Language(unittest.TestCase):
    """Points [9] to [12], line by line."""

    def test_at_the_start(self):
        nothing = "if par is none and top is none and low is none and out is none and at is none; quit; end; at = at.up"
        for kind in ("find", "after", "first", "put", "drop"):
            handed = {"put": (4, 8), "first": None}.get(kind, 3)
            self.assertEqual(run(kind, nothing, ONE, handed).ended, "done")
        for kind in ("next", "take", "leave"):
            done = run(kind, "if par is none and top is none and low is none; out = at; end", FOUR, 2)
            self.assertEqual((done.ended, done.out), ("done", 2))

    def test_reads(self):
        rows = "at = root; par = at; top = at.left; low = at.right; out = low.right"
        self.assertEqual(run("first", rows, FOUR).out, 3)
        self.assertEqual(run("first", rows + "; out = out.up", FOUR).out, 2)
        self.assertEqual(run("first", rows + "; out = top", FOUR).out, 0)
        self.assertEqual(run("first", rows + "; out = none", FOUR).out, None)
        self.assertEqual(run("first", rows + "; out = top.left", FOUR).out, None)
        self.assertEqual(run("put", "out = new; at = root; out = at", FOUR, (5, 5)).out, 1)
        self.assertEqual(run("put", "out = new", FOUR, (5, 5)).out, 4)
        self.assertEqual(run("put", "out = new; out = out.left", FOUR, (5, 5)).out, None)

    def test_writes(self):
        done = run("put", "at = root; at.left = new; new.right = at; new.up = none; root = new", FOUR, (5, 5))
        self.assertEqual((done.root, done.links()[1], done.links()[4]), (4, (4, 2, None), (None, 1, None)))
        self.assertEqual(done.links()[0], (None, None, None))
        done = run("first", "at = root; root = none", FOUR)
        self.assertEqual((done.root, done.links()), (None, links(FOUR)))
        done = run("first", "at = root; low = at.right; at gets low", FOUR)
        self.assertEqual(done.held(), {0: (1, 11), 1: (6, 13), 2: (6, 13), 3: (9, 14)})

    def test_beyond_at_once(self):
        lines = ("par = at.left", "par = at.up", "at.left = par", "at.up = none", "at gets par", "if at.left is none; end",
                 "if none is at.right; end", "if at < par; end", "if par is at.up; end")
        for line in lines:
            done = run("first", f"out = at; {line}; root = none", FOUR)
            self.assertEqual((done.ended, done.compares, done.broken), ("beyond", 0, ("inside",)), line)
            self.assertEqual((done.root, done.links(), done.told()), (1, links(FOUR), None))
            self.assertEqual(done.lines(), (1, 2))
            self.assertEqual(done.sides(), ())
        self.assertEqual(run("first", "at.left = none").lines(), (1,))
        self.assertEqual(run("find", "if key is at; end", None, 3).compares, 0)
        self.assertEqual(run("find", "if key < at; end", None, 3).ended, "beyond")
        self.assertEqual(run("find", "if at < key; end", None, 3).ended, "beyond")

    def test_a_gets_of_one_that_is_none(self):
        for line in ("at gets par", "par gets at"):
            done = run("first", f"at = root; {line}", FOUR)
            self.assertEqual((done.ended, done.held()), ("beyond", run("first", "", FOUR).held()))

    def test_beyond_in_loops(self):
        done = run("first", "at = root; down not at.left is none; keep out; go left; end", None)
        self.assertEqual((done.ended, done.lines(), done.sides()), ("beyond", (1, 2), ()))
        done = run("first", "at = root; down at is none; keep out; go left; end", None)
        self.assertEqual((done.ended, done.lines(), done.sides()), ("beyond", (1, 2, 3, 4), ((2, True),)))
        self.assertEqual(done.stations(), ((2, None, None, None, None),))

    def test_quit(self):
        done = run("find", "out = at; quit; out = root", ONE, 5)
        self.assertEqual((done.ended, done.lines(), done.out), ("done", (1, 2), None))
        done = run("find", "at = root; down not at is none; keep out; quit; end; out = none", ONE, 5)
        self.assertEqual((done.ended, done.lines(), done.out), ("done", (1, 2, 3, 4), 0))

    def test_ifs(self):
        rows = "at = root; if at is none; out = none; else; if at.left is none; out = at; else; out = at.left; end; end"
        self.assertEqual(run("first", rows).lines(), (1, 2, 3))
        self.assertEqual(run("first", rows, ONE).lines(), (1, 2, 5, 6))
        self.assertEqual(run("first", rows, FOUR).lines(), (1, 2, 5, 8))
        self.assertEqual(run("first", rows, FOUR).sides(), ((2, False), (5, False)))
        self.assertEqual(run("first", rows, FOUR).out, 0)

    def test_parts_are_asked_from_the_left(self):
        rows = "if not at is none and at.left is none; out = at; end"
        self.assertEqual(run("first", rows).ended, "done")
        rows = "if at is none and at.left is none; out = at; end"
        self.assertEqual(run("first", rows).ended, "beyond")
        rows = "at = root; if not key < at and not at < key and key is at and not key is at; out = at; end"
        self.assertEqual([run("find", rows, ONE, key).compares for key in (4, 5, 6)], [1, 4, 2])
        self.assertEqual([run("find", rows, ONE, key).sides() for key in (4, 5, 6)], [((2, False),)] * 3)

    def test_is(self):
        for part, holds in (("at is root", True), ("at is par", False), ("par is none", True), ("at.left is none", False),
                            ("at.left is at.right", False), ("at.up is none", True), ("at.up is par", True),
                            ("low is at.right", True), ("low.up is at", True), ("low.left is out", True)):
            done = run("first", f"at = root; low = at.right; if {part}; end", FOUR)
            self.assertEqual(done.sides(), ((3, holds),), part)
            done = run("first", f"at = root; low = at.right; if not {part}; end", FOUR)
            self.assertEqual(done.sides(), ((3, not holds),), part)
            first, second = part.split(" is ")
            done = run("first", f"at = root; low = at.right; if {second} is {first}; end", FOUR)
            self.assertEqual(done.sides(), ((3, holds),), part)

    def test_comparisons(self):
        for part, holds in (("at < low", True), ("low < at", False), ("at < par", False), ("key < at", True),
                            ("at < key", False), ("key is at", False), ("key < top", False), ("key is top", True)):
            done = run("find", f"at = root; low = at.right; par = at; top = at.left; if {part}; end", FOUR, 1)
            self.assertEqual((done.sides(), done.compares), (((5, holds),), 1), part)
        for key, holds in ((3, True), (5, False)):
            done = run("put", "at = root; if new < at; end; par = new; if new < par; end", FOUR, (key, 0))
            self.assertEqual((done.sides(), done.compares), (((2, holds), (5, False)), 2))
        done = run("put", "at = root; new gets at; if new < at; end; if at < new; end", FOUR, (3, 0))
        self.assertEqual(done.sides(), ((3, False), (5, False)))

    def test_from(self):
        rows = ("up not at is none; if from left; keep par; end; if from right; keep out; end; "
                "if from left; go up; else; go up; end; end")
        self.assertEqual(run("next", rows, FOUR, 3).out, 1)
        self.assertEqual(run("next", rows, FOUR, 0).out, None)
        self.assertEqual(run("next", rows + "; out = par", FOUR, 0).out, 1)
        done = run("next", rows, ONE, 0)
        self.assertEqual(done.sides(), ((1, False), (1, True), (2, False), (5, False), (8, False)))
        done = run("next", "up at is none; end; out = at", ONE, 0)
        self.assertEqual(done.lines(), (1, 3))
        done = run("next", "at = at.up; up not from left and not from right; if at is none; stop; end; go up; end", ONE, 0)
        self.assertEqual(done.sides(), ((2, True), (3, True)))

    def test_keep_and_stop(self):
        rows = "at = root; down not at is none; keep par; keep out; if at.left is none; stop; end; go left; end; out = par"
        self.assertEqual(run("first", rows, FOUR).out, 0)
        self.assertEqual(run("first", rows, FOUR).lines(), (1, 2, 3, 4, 5, 6, 8, 10))
        self.assertEqual(run("first", rows, None).out, None)
        done = run("first", "at = root; down at is none; keep out; stop; end; par = out", None)
        self.assertEqual((done.ended, done.out), ("done", None))

    def test_loops_that_never_begin(self):
        done = run("first", "at = root; down at is none; go left; end; out = at", FOUR)
        self.assertEqual((done.lines(), done.out, done.sides()), ((1, 2, 5), 1, ((2, False),)))

    def test_two_loops(self):
        rows = ("at = root; down not at.left is none; keep par; go left; end; at = at.right; "
                "down not at is none and par < at; go left; end; out = at")
        tree = ((None, (1, 1), (None, (2, 2), None)), (4, 4), None)
        done = run("first", rows, tree)
        self.assertEqual((done.out, done.compares, done.ended), (1, 1, "done"))


class Ends(unittest.TestCase):
    """How plays end, and what is told of them: points [14], [15], [18], [19]."""

    def test_endless_at_the_first_head(self):
        done = run("first", "at = root; down not at is none; keep out; end", ONE)
        self.assertEqual((done.ended, done.broken, done.out, done.lines()), ("endless", ("ends",), 0, (1, 2, 3)))
        self.assertEqual(done.stations(), ((2, None, False, False, None),) * 2)
        self.assertEqual((done.told(), done.root), (None, 0))
        self.assertEqual(run("first", "at = root; down not at is none; keep out; end").ended, "done")

    def test_endless_behind_a_go(self):
        done = run("find", "at = root; down not at is none; if key < at; go left; end; end", FOUR, 3)
        self.assertEqual((done.ended, done.compares, done.lines()), ("endless", 2, (1, 2, 3, 4)))
        self.assertEqual(done.stations(), ((2, None, True, True, -1),) + ((2, "left", False, False, 1),) * 2)
        done = run("next", "up not at is none; if from left; else; go up; end; end", FOUR, 0)
        self.assertEqual((done.ended, len(done.stations())), ("endless", 3))

    def test_stations_of_loops_down(self):
        done = run("put", PUT, FOUR, (7, 0))
        self.assertEqual(done.stations(), ((2, None, True, True, 1), (2, "right", False, True, 1),
                                           (2, "right", False, False, -1), (2, "left", None, None, None)))
        done = run("find", FIND, FOUR, 6)
        self.assertEqual(done.stations(), ((2, None, True, True, 1), (2, "right", False, True, 0)))
        done = run("first", FIRST, None)
        self.assertEqual(done.stations(), ((2, None, None, None, None),))
        done = run("take", TAKER, FOUR, 1)
        self.assertEqual(done.stations(), ((6, None, False, True, None),))

    def test_stations_of_loops_up(self):
        self.assertEqual(run("next", NEXT, FOUR, 3).stations(), (
            (2, None, False, False, None), (2, "right", False, True, None), (2, "right", True, True, None),
            (2, None, None, None, None)))
        done = run("next", "at = at.up; up not at is none; go up; end", FOUR, 0)
        self.assertEqual(done.stations(), ((2, None, True, True, None), (2, None, None, None, None)))

    def test_stations_of_two_loops(self):
        rows = "at = root; down not at.left is none; go left; end; at = at.right; down not at is none; go right; end"
        tree = ((None, (1, 1), (None, (2, 2), None)), (4, 4), None)
        self.assertEqual(run("first", rows, tree).stations(), (
            (2, None, True, False, None), (2, "left", False, True, None), (6, None, False, False, None),
            (6, "right", None, None, None)))

    def test_numbers(self):
        done = run("put", PUT, FOUR, (5, 5))
        self.assertEqual(done.held(), {0: (1, 11), 1: (4, 12), 2: (6, 13), 3: (9, 14), 4: (5, 5)})
        self.assertEqual((done.links()[4], done.links()[2], done.root), ((None, None, 2), (4, 3, 1), 1))
        self.assertEqual(run("put", PUT, None, (5, 5)).held(), {0: (5, 5)})

    def test_new_is_there_though_it_is_not_put(self):
        done = run("put", "out = new", FOUR, (5, 5))
        self.assertEqual((done.links()[4], done.out, done.held()[4]), ((None, None, None), 4, (5, 5)))
        done = run("put", "new.left = at; at = root; new.right = at; at = none; at = at.left", FOUR, (5, 5))
        self.assertEqual((done.ended, done.links()[4]), ("beyond", (None, 1, None)))

    def test_links_of_what_is_gone(self):
        done = run("take", TAKER, FOUR, 1)
        self.assertEqual((done.links()[1], done.held()[1]), ((None, None, None), (4, 12)))
        done = run("take", "root = none", FOUR, 1)
        self.assertEqual(set(done.links().values()), {(None, None, None)})
        self.assertEqual((done.told(), done.broken), (None, ("items",)))
        # The links stay where the play is not done, and where nothing is to be changed.
        done = run("take", "root = none; par = low.up", FOUR, 1)
        self.assertEqual((done.ended, done.links()), ("beyond", links(FOUR)))
        done = run("next", "root = none", FOUR, 1)
        self.assertEqual((done.links(), done.broken), (links(FOUR), ("items",)))

    def test_what_is_met_keeps_its_links_in_a_wrong_tree(self):
        done = run("take", "at.left = at; low = at.right; at.right = none", FOUR, 1)
        self.assertEqual((done.broken, done.told(), done.root), (("tree",), None, 1))
        self.assertEqual(done.links(), {0: (None,) * 3, 1: (1, None, None), 2: (None,) * 3, 3: (None,) * 3})

    def test_what_is_met_by_up_links_alone_is_gone(self):
        done = run("take", "low = at.left; root = low", FOUR, 1)
        self.assertEqual((done.broken, done.links()[0], done.links()[1]), (("tree",), (None, None, 1), (None,) * 3))
        self.assertEqual((done.links()[2], done.root), ((None,) * 3, 0))

    def test_without_ups(self):
        done = run("put", PUT_DOWN, FOUR, (5, 5), False)
        self.assertEqual((done.links()[4], done.links()[0], done.broken), ((None, None, None), (None, None, None), ()))
        self.assertEqual({beside[2] for beside in done.links().values()}, {None})
        self.assertEqual(run("first", FIRST, FOUR, None, False).links()[2], (None, 3, None))

    def test_told(self):
        self.assertEqual(run("first", "at = root", FOUR).told(), FOUR)
        self.assertEqual(run("first", "at = root").told(), None)
        self.assertEqual(run("take", TAKER, ONE, 0).told(), None)
        self.assertEqual(run("take", TAKER, ONE, 0).broken, ())
        self.assertEqual(run("take", TAKER, FOUR, 1).told(), ((None, (1, 11), None), (6, 13), (None, (9, 14), None)))
        self.assertEqual(run("take", MOVER, FOUR, 1).held()[1], (6, 13))

    def test_attributes_for_every_kind(self):
        for kind in ALL_KINDS:
            handed = {"put": (5, 5), "first": None}.get(kind, 1)
            done = run(kind, "out = at; quit", FOUR, handed)
            self.assertEqual((done.ended, done.root, done.compares, done.lines()), ("done", 1, 0, (1, 2)))
            self.assertEqual(done.out, 1 if kind in ("next", "take", "leave") else None)
            self.assertEqual((done.sides(), done.stations()), ((), ()))

    def test_the_order_of_sides(self):
        done = run("after", AFTER, FOUR, 5)
        self.assertEqual(done.sides(), ((2, False), (2, True), (3, False), (3, True)))
        self.assertEqual((done.lines(), done.compares, done.out), ((1, 2, 3, 4, 5, 7), 2, 2))

    def test_an_empty_code(self):
        for kind, broken in (("first", ("out",)), ("take", ("items",)), ("next", ("out",)), ("leave", ("items",))):
            done = run(kind, "", FOUR, None if kind == "first" else 1)
            self.assertEqual((done.ended, done.broken, done.lines()), ("done", broken, ()))

    def test_all_trees_stay_as_they_are(self):
        for tree in TREES[4]:
            done = play(code_of("first", True, ""), tree)
            self.assertEqual((done.links(), done.told(), done.root), (links(tree), tree, root_of(tree)))
