"""Which codes go together: points [21], [22] and [30], and "nextcode/walks.py" of the interface."""

import unittest

from nextcode.errors import BadKind, OtherUps, TreeError
from nextcode.play import play
from nextcode.stores import Store
from nextcode.trees import all_items, is_told
from nextcode.verdicts import keeps
from nextcode.walks import bad_walk, together
from tests.brute import TREES, handed_for
from tests.helper import ALL_KINDS
from tests.made import with_slips
from tests.samples import (
    AFTER, AFTER_TWICE, DROP, DROP_DOWN, DROP_MOVED, KEEPING_ALL, MOVER, MOVING, NEXT, NEXT_LESS, PUT, REFILLING, SLIPS,
    TAKER, code_of)

PUT_CODE = code_of("put", True, PUT)
GOERS = [code_of("next", True, rows) for rows in (NEXT, NEXT_LESS)]
FINDERS = [code_of("after", True, rows) for rows in (AFTER, AFTER_TWICE)]
TAKERS = [code_of("take", True, TAKER), code_of("drop", True, DROP)]
MOVERS = [code_of("take", True, MOVER), code_of("drop", True, DROP_MOVED)]
REFILLERS = [code_of(*one) for one in REFILLING]


def slips_of(kind):
    return [code_of(one, ups, rows) for one, ups, rows, _, _ in SLIPS if one == kind and ups]


def is_right_alone(taker, goer, finder):
    """Whether each code keeps what point [22] wants of it alone."""
    wanted = [(taker, promise) for promise in ("inside", "ends", "tree", "items")]
    for code in (goer, finder):
        if code is not None:
            wanted += [(code, promise) for promise in ("inside", "ends", "tree", "items", "out")]
    return all(keeps(code, promise) for code, promise in wanted)


def store_of(taker, goer, finder, tree):
    codes = {"take": taker, "next": goer, "put": PUT_CODE}
    if finder is not None:
        codes["after"] = finder
    return Store(True, codes, tree)


def goes_wrong(store, finder):
    """Whether the step of the walker goes wrong now; the walker is gone on with."""
    node, item = store.walker("walker")
    if finder is None and node not in store.numbered():
        return True
    done = store.go_on("walker", "next", None if finder is None else "after")
    greater = sorted((one, number) for number, one in store.numbered().items() if one > item)
    return done.ended != "done" or done.out != (greater[0][1] if greater else None)


def histories_go_wrong(taker, goer, finder, tree):
    """Whether a step goes wrong behind one play of the taker, and perhaps an item put in, or another play of it."""
    many = len(all_items(tree))
    for walker in range(many):
        item = all_items(tree)[walker]
        for handed in handed_for(taker.kind, many):
            if handed == (walker if taker.kind == "take" else item[0]):
                continue
            store = store_of(taker, goer, finder, tree)
            store.walk("walker", walker)
            store.do("take", handed)
            if walker not in store.numbered() or store.numbered()[walker] != item:
                if goes_wrong(store, finder):
                    return True
                continue
            keys = [key for key, _ in store.numbered().values()]
            deeds = [("put", (key, -key)) for key in range(1, 2 * many + 2) if key not in keys and key != item[0]]
            for number, other in store.numbered().items():
                if number != walker:
                    deeds.append(("take", number if taker.kind == "take" else other[0]))
            if behind_deeds(store, deeds, walker, finder):
                return True
    return False


def behind_deeds(store, deeds, walker, finder):
    """Whether the step of a walker whose item still lies in its node goes wrong, perhaps behind one of these deeds."""
    for deed in deeds:
        store.do(*deed)
        is_wrong = goes_wrong(store, finder)
        store.undo()
        store.walk("walker", walker)
        if is_wrong:
            return True
    return goes_wrong(store, finder)


class AgainstHistories(unittest.TestCase):
    """Held against histories on all small trees."""

    def agrees(self, taker, goer, finder, most=4):
        told = together(taker, goer, finder)
        walk = bad_walk(taker, goer, finder)
        if not is_right_alone(taker, goer, finder):
            self.assertEqual((told, walk), (False, None))
            return told
        self.assertEqual(told, walk is None)
        trees = [tree for many in range(most + 1) for tree in TREES[many]]
        self.assertEqual(any(histories_go_wrong(taker, goer, finder, tree) for tree in trees), not told,
                         (taker.text, goer.text, finder))
        if walk is not None:
            self.wrong(taker, goer, finder, walk)
        return told

    def wrong(self, taker, goer, finder, walk):
        """The walk that is told is a right case of the taker for another item, and goes wrong."""
        self.assertTrue(type(walk) is tuple and len(walk) == 3)
        tree, walker, handed = walk
        self.assertTrue(is_told(tree))
        items = all_items(tree)
        self.assertIn(walker, range(len(items)))
        self.assertNotEqual(handed, walker if taker.kind == "take" else items[walker][0])
        self.assertEqual(set(play(taker, tree, handed).broken), {"steady"})
        store = store_of(taker, goer, finder, tree)
        store.walk("walker", walker)
        store.do("take", handed)
        self.assertTrue(goes_wrong(store, finder))

    def test_ways_of_taking_out_by_links(self):
        for taker in TAKERS:
            for goer in GOERS:
                for finder in [None] + FINDERS:
                    self.assertTrue(self.agrees(taker, goer, finder, 3))
        self.assertTrue(self.agrees(TAKERS[0], GOERS[0], None, 5))

    def test_ways_of_taking_out_by_moving_an_item(self):
        for taker in MOVERS:
            for goer in GOERS:
                for finder in [None] + FINDERS:
                    self.assertEqual(self.agrees(taker, goer, finder, 3), finder is not None)
        self.assertTrue(self.agrees(MOVERS[0], GOERS[0], FINDERS[0], 5))

    def test_ways_of_taking_out_by_moving_two_items(self):
        for taker in REFILLERS:
            for goer in GOERS:
                for finder in [None] + FINDERS:
                    self.assertFalse(self.agrees(taker, goer, finder))
            self.assertEqual(len(all_items(bad_walk(taker, GOERS[0], FINDERS[0])[0])), 4)
            self.assertEqual(len(all_items(bad_walk(taker, GOERS[0])[0])), 3)

    def test_takers_with_slips(self):
        told = [self.agrees(taker, GOERS[0], finder, 3) for kind in ("take", "drop") for taker in slips_of(kind)
                for finder in (None, FINDERS[0])]
        self.assertEqual(set(told), {False})

    def test_made_takers(self):
        found = [code for code in map(with_slips, range(2000, 5000)) if code and code.ups and code.kind in ("take", "drop")]
        right = [code for code in found if is_right_alone(code, GOERS[0], FINDERS[0])]
        told = [(self.agrees(code, GOERS[0], None, 3), self.agrees(code, GOERS[0], FINDERS[0], 3)) for code in right]
        self.assertLessEqual({(True, True), (False, True)}, set(told))
        for code in found[:100]:
            self.assertEqual(together(code, GOERS[0]), code in right and keeps(code, "steady"))

    def test_goers_and_finders_with_slips(self):
        for taker in TAKERS + MOVERS[:1] + REFILLERS[:1]:
            for goer in slips_of("next"):
                for finder in (None, FINDERS[0]):
                    self.assertFalse(self.agrees(taker, goer, finder, 3))
            for finder in slips_of("after"):
                self.assertFalse(self.agrees(taker, GOERS[0], finder, 3))

    def test_one_slip_of_each_that_shows_in_a_history(self):
        # The next node is told to be the right child itself.
        goer = code_of("next", True, NEXT.replace("down not at.left is none; go left; end; ", ""))
        trees = TREES[4]
        self.assertTrue(any(histories_go_wrong(TAKERS[0], goer, FINDERS[0], tree) for tree in trees))
        finder = code_of("after", True, AFTER.replace("key < at", "not at < key"))
        self.assertTrue(any(histories_go_wrong(MOVERS[0], GOERS[0], finder, tree) for tree in trees))
        self.assertFalse(any(histories_go_wrong(MOVERS[0], GOERS[0], FINDERS[0], tree) for tree in trees))


class Errors(unittest.TestCase):
    def fate(self, *codes):
        found = []
        for ask in (together, bad_walk):
            try:
                ask(*codes)
                found.append("right")
            except BadKind as error:
                found.append(("BadKind", error.kind))
            except OtherUps:
                found.append("OtherUps")
        self.assertEqual(found[0], found[1])
        return found[0]

    def test_kinds(self):
        right = (code_of("take", True, ""), code_of("next", True, ""), code_of("after", True, ""))
        for kind in ALL_KINDS:
            code = code_of(kind, True, "")
            bad = ("BadKind", kind)
            self.assertEqual(self.fate(code, *right[1:]), "right" if kind in ("take", "drop") else bad)
            self.assertEqual(self.fate(right[0], code, right[2]), "right" if kind == "next" else bad)
            self.assertEqual(self.fate(right[0], code), "right" if kind == "next" else bad)
            self.assertEqual(self.fate(*right[:2], code), "right" if kind == "after" else bad)

    def test_the_first_one_is_told(self):
        codes = {kind: code_of(kind, kind in ("next", "take", "leave"), "") for kind in ALL_KINDS}
        self.assertEqual(self.fate(codes["find"], codes["put"], codes["first"]), ("BadKind", "find"))
        self.assertEqual(self.fate(codes["drop"], codes["put"], codes["first"]), ("BadKind", "put"))
        self.assertEqual(self.fate(codes["drop"], codes["next"], codes["first"]), ("BadKind", "first"))
        self.assertEqual(self.fate(codes["drop"], codes["next"], codes["after"]), "OtherUps")
        self.assertEqual(self.fate(codes["next"], codes["take"], codes["find"]), ("BadKind", "next"))

    def test_ups(self):
        take, goer = code_of("take", True, TAKER), code_of("next", True, NEXT)
        drop, drop_down = code_of("drop", True, DROP), code_of("drop", False, DROP_DOWN)
        after, after_down = code_of("after", True, AFTER), code_of("after", False, AFTER)
        self.assertEqual(self.fate(take, goer, after_down), "OtherUps")
        self.assertEqual(self.fate(drop_down, goer), "OtherUps")
        self.assertEqual(self.fate(drop_down, goer, after), "OtherUps")
        self.assertEqual(self.fate(drop_down, goer, after_down), "OtherUps")
        self.assertEqual(self.fate(drop, goer, after), "right")
        with self.assertRaises(TreeError):
            together(drop_down, goer)

    def test_right_codes_of_all_kinds(self):
        for kind, ups, rows in KEEPING_ALL + MOVING:
            fate = "right" if (kind, ups) in (("take", True), ("drop", True)) else (
                "OtherUps" if kind == "drop" else ("BadKind", kind))
            self.assertEqual(self.fate(code_of(kind, ups, rows), GOERS[0]), fate)

    def test_arguments_by_name(self):
        mover, goer, finder = MOVERS[0], GOERS[0], FINDERS[0]
        self.assertTrue(together(finder=finder, goer=goer, taker=mover))
        self.assertFalse(together(goer=goer, taker=mover, finder=None))
        self.assertIsNone(bad_walk(finder=finder, goer=goer, taker=mover))
        self.assertEqual(bad_walk(goer=goer, taker=mover), bad_walk(mover, goer))

    def test_codes_of_sixty_lines(self):
        for kind, ups, rows in REFILLING + MOVING:
            if (kind, ups) in (("take", True), ("drop", True)):
                taker = code_of(kind, ups, rows)
                longer = code_of(kind, ups, rows + "; out = low" * (60 - len(taker)))
                self.assertEqual(len(longer), 60)
                for finder in (None, FINDERS[0]):
                    self.assertEqual(together(longer, GOERS[0], finder), together(taker, GOERS[0], finder))

    def test_codes_without_lines(self):
        # A code that takes nothing out does not go together with any, however still a walker may stand.
        nothing = code_of("take", True, "")
        self.assertEqual((together(nothing, GOERS[0]), bad_walk(nothing, GOERS[0])), (False, None))
        self.assertEqual((together(TAKERS[0], code_of("next", True, "")), bad_walk(TAKERS[0], GOERS[0])), (False, None))
