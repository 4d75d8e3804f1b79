"""Which promises one play breaks: points [6], [8] and [16]."""

import unittest

from nextcode.play import play
from tests.samples import AFTER, FIND, FIRST, MOVER, NEXT, PUT, TAKER, code_of

FOUR = ((None, (1, 11), None), (4, 12), (None, (6, 13), (None, (9, 14), None)))


def broken(kind, rows, handed=None, tree=FOUR, ups=True):
    return play(code_of(kind, ups, rows), tree, handed).broken


class Trees(unittest.TestCase):
    """Trees that are left right or wrong, point [6]."""

    def test_rings(self):
        self.assertEqual(broken("put", "root = new; new.left = new", (5, 5)), ("tree",))
        self.assertEqual(broken("put", "at = root; low = at.right; low.left = at", (5, 5)), ("tree",))
        self.assertEqual(broken("put", "at = root; low = at.right; low.left = at", (5, 5), FOUR, False), ("tree",))

    def test_rings_that_are_not_met(self):
        self.assertEqual(broken("put", "root = none; new.left = new; new.up = new", (5, 5), None), ("items",))
        self.assertEqual(broken("take", "root = none; at.left = at", 1), ("items",))

    def test_a_node_met_twice(self):
        self.assertEqual(broken("put", "at = root; par = at.left; at.right = par", (5, 5), FOUR, False), ("tree",))
        self.assertEqual(broken("put", "root = new; new.left = par; new.right = par", (5, 5), None), ())
        rows = "at = root; par = at.right; top = par.right; par.left = top"
        self.assertEqual(broken("put", rows, (5, 5)), ("tree",))

    def test_the_order(self):
        rows = "at = root; at.up = new; new.LINK = at; root = new"
        for link, key, told in (("left", 10, ()), ("left", 0, ("tree",)), ("left", 5, ("tree",)), ("right", 0, ()),
                                ("right", 10, ("tree",)), ("right", 3, ("tree",))):
            self.assertEqual(broken("put", rows.replace("LINK", link), (key, 0)), told)

    def test_an_order_that_is_wrong_far_below_alone(self):
        # 5 is less than 6, to whose left it hangs, but greater than 4, to whose left they both hang.
        tree = ((None, (1, 1), (None, (3, 3), None)), (4, 4), None)
        rows = "at = root; par = at.left; low = par.right; low.right = new; new.up = low"
        self.assertEqual(broken("put", rows, (5, 5), tree), ("tree",))

    def test_equal_items(self):
        self.assertEqual(broken("put", "at = root; low = at.right; at gets low", (5, 5)), ("tree",))
        self.assertEqual(broken("put", PUT + "; new gets par", (5, 5)), ("tree",))

    def test_the_up_link_of_the_root(self):
        self.assertEqual(broken("put", "root = new; new.up = new", (5, 5), None), ("tree",))
        self.assertEqual(broken("take", "low = at.left; root = low", 1), ("tree",))
        self.assertEqual(broken("take", "low = at.left; root = low; low.up = none", 1), ("items",))
        self.assertEqual(broken("first", "at = root; low = at.right; at.up = low; out = at.left"), ("tree",))

    def test_up_links_below(self):
        self.assertEqual(broken("first", "at = root; low = at.right; low.up = none; out = at.left"), ("tree",))
        self.assertEqual(broken("first", "at = root; low = at.right; par = low.right; par.up = at; out = at.left"),
                         ("tree",))
        self.assertEqual(broken("first", "at = root; low = at.right; low.up = at; out = at.left"), ())
        self.assertEqual(broken("put", PUT.replace("new.up = par; ", ""), (5, 5)), ("tree",))
        self.assertEqual(broken("put", PUT.replace("new.up = par; ", ""), (5, 5), None), ())
        self.assertEqual(broken("put", PUT.replace("new.up = par; ", ""), (5, 5), FOUR, False), ())

    def test_no_node_is_right(self):
        self.assertEqual(broken("take", "root = none", 0, (None, (1, 1), None)), ())
        self.assertEqual(broken("find", "", 4, None), ())


class Items(unittest.TestCase):
    def test_lost(self):
        self.assertEqual(broken("put", "at = none", (5, 5)), ("items",))
        self.assertEqual(broken("take", "root = none", 1), ("items",))
        self.assertEqual(broken("take", "at.right = none", 2), ("items",))
        self.assertEqual(broken("drop", "at = none", 6), ("items",))
        self.assertEqual(broken("drop", "at = none", 5), ())
        self.assertEqual(broken("drop", "at = root; at.left = none", 1), ())
        self.assertEqual(broken("drop", "at = root; at.left = none", 2), ("items",))
        self.assertEqual(broken("drop", "at = root; at.left = none", 6), ("items",))
        self.assertEqual(broken("leave", "out = at", 1), ("items",))

    def test_the_wrong_one_is_gone(self):
        self.assertEqual(broken("take", "at.right = none", 0, (None, (1, 1), (None, (2, 2), None))), ("items",))
        self.assertEqual(broken("drop", "at = root; at.right = none", 1, (None, (1, 1), (None, (2, 2), None))), ("items",))
        self.assertEqual(broken("drop", "at = root; at.right = none", 2, (None, (1, 1), (None, (2, 2), None))), ())

    def test_held_by_another_node(self):
        self.assertEqual(broken("take", MOVER, 1), ("steady",))
        self.assertEqual(broken("take", MOVER, 2), ())
        self.assertEqual(broken("take", TAKER, 1), ())
        # The new item takes the place of one that is lost.
        self.assertEqual(broken("put", "at = root; low = at.right; low gets new", (5, 5)), ("items",))

    def test_an_item_that_takes_the_place_of_the_new_one(self):
        rows = "at = root; new gets at; root = new"
        self.assertEqual(broken("put", rows, (5, 5), (None, (1, 1), None)), ("items",))

    def test_steady_tells_nothing_of_the_new_item(self):
        rows = "at = root; at.right = new; new.up = at"
        self.assertEqual(broken("put", rows, (5, 5), (None, (1, 1), None)), ())
        # A node that is put in may hold an item that was there before, and the other way round.
        rows = "at = root; par = at.right; at.right = new; new.up = at; new gets par"
        self.assertEqual(broken("put", rows, (5, 5), (None, (1, 1), (None, (2, 2), None))), ("items",))

    def test_nothing_is_changed(self):
        for kind, handed in (("find", 4), ("after", 3), ("first", None), ("next", 0)):
            tell = {"find": "out = root", "after": "out = root", "first": "at = root; out = at.left",
                    "next": "out = at.up"}[kind]
            self.assertEqual(broken(kind, tell, handed), ())
            self.assertEqual(broken(kind, tell + "; out.left = none", handed), () if kind == "first" else ("items",))
            self.assertEqual(broken(kind, tell + "; root = none", handed), ("items",))
            self.assertEqual(broken(kind, tell + "; root = out; out.up = none", handed),
                             ("items",) if kind == "first" else ())

    def test_links_of_nodes_that_are_not_met_count_too(self):
        self.assertEqual(broken("first", "at = root; root = none; out = at.left; at.right = none"), ("items",))

    def test_a_turn_is_a_change(self):
        rows = ("at = root; par = at.right; low = par.left; at.right = low; par.left = at; root = par; par.up = none; "
                "at.up = par; out = at.left")
        self.assertEqual(broken("first", rows), ("items",))
        self.assertEqual(broken("drop", rows, 5), ())
        self.assertEqual(broken("drop", rows, 6), ("items",))


class Out(unittest.TestCase):
    def test_find(self):
        for key, told in ((1, ("out",)), (4, ()), (5, ("out",)), (9, ("out",))):
            self.assertEqual(broken("find", "out = root", key), told)
        self.assertEqual([broken("find", "", key) for key in (4, 5)], [("out",), ()])
        self.assertEqual(broken("find", FIND + "; out = none", 5), ())

    def test_after(self):
        for key, told in ((0, ("out",)), (1, ()), (3, ()), (4, ("out",)), (9, ("out",))):
            self.assertEqual(broken("after", "out = root", key), told)
        self.assertEqual([broken("after", "", key) for key in (8, 9, 10)], [("out",), (), ()])
        self.assertEqual(broken("after", AFTER, 6), ())

    def test_first(self):
        self.assertEqual(broken("first", "out = root"), ("out",))
        self.assertEqual(broken("first", FIRST), ())
        self.assertEqual((broken("first", ""), broken("first", "", None, None)), (("out",), ()))
        self.assertEqual(broken("first", "out = root", None, (None, (5, 5), None)), ())

    def test_next(self):
        self.assertEqual([broken("next", "out = at.up", node) for node in range(4)], [(), ("out",), ("out",), ("out",)])
        self.assertEqual([broken("next", "", node) for node in range(4)], [("out",), ("out",), ("out",), ()])
        self.assertEqual([broken("next", NEXT, node) for node in range(4)], [()] * 4)

    def test_leave(self):
        take = TAKER + "; out = OUT"
        # At the end low is the node that came in place of the one that is gone, which is the next one here.
        self.assertEqual(broken("leave", take.replace("OUT", "at"), 1), ())
        self.assertEqual(broken("leave", take.replace("OUT", "par"), 1), ("out",))
        self.assertEqual(broken("leave", take.replace("OUT", "none"), 3), ())
        self.assertEqual(broken("leave", take.replace("OUT", "top"), 3), ("out",))
        # The node that held the item is told, not the one that holds it then.
        self.assertEqual(broken("leave", MOVER + "; out = at", 1), ("out", "steady"))

    def test_kinds_that_owe_no_node(self):
        self.assertEqual(broken("put", PUT + "; out = new", (5, 5)), ())
        self.assertEqual(broken("take", TAKER + "; out = top", 1), ())
        self.assertEqual(broken("drop", "out = root", 5), ())

    def test_only_where_the_items_are_owed(self):
        self.assertEqual(broken("first", "out = root; out.left = none"), ("items",))
        self.assertEqual(broken("first", "out = root; out.left = out"), ("tree",))
        self.assertEqual(broken("first", "out = root; at = out.up; at = at.up"), ("inside",))
        self.assertEqual(broken("first", "at = root; down not at is none; keep par; end"), ("ends",))
