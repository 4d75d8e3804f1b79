"""Stores: points [2], [3], [7], [8], [14], [15], [21] and [22], and "nextcode/stores.py" of the interface."""

import random
import unittest

from nextcode.codes import Code
from nextcode.errors import BadHanded, BadName, BadTree, BadUps, NoDeed, NothingToUndo, NoWalker, TreeError
from nextcode.play import Play, play
from nextcode.stores import Store
from nextcode.trees import all_items, height, is_told, links, of_items
from tests.brute import TREES, handed_for
from tests.helper import odd_values
from tests.samples import (
    AFTER, AFTER_TWICE, DROP, DROP_DOWN, DROP_MOVED, DROP_MOVED_DOWN, FIND, FIRST, LEAVE, LEAVE_MOVED, MOVER, NEXT,
    NEXT_LESS, PUT, PUT_ABOVE, PUT_DOWN, REFILL_GREATER, TAKER, code_of)

FOUR = ((None, (1, 11), None), (4, 12), (None, (6, 13), (None, (9, 14), None)))
ONE = (None, (5, 7), None)

# Names of deeds, their kinds and rows; behind the right ones those that fail, or do what they should not.
WITH_UPS = {
    "put": ("put", PUT), "put above": ("put", PUT_ABOVE), "take": ("take", TAKER), "move": ("take", MOVER),
    "refill": ("take", REFILL_GREATER), "drop": ("drop", DROP), "drop moved": ("drop", DROP_MOVED),
    "leave": ("leave", LEAVE), "leave moved": ("leave", LEAVE_MOVED), "find": ("find", FIND), "first": ("first", FIRST),
    "after": ("after", AFTER), "after twice": ("after", AFTER_TWICE), "next": ("next", NEXT), "next less": ("next", NEXT_LESS),
    "put loose": ("put", PUT.replace("new.up = par; ", "")), "put nowhere": ("put", "out = new"),
    "put alone": ("put", "root = new"), "put ring": ("put", "root = new; new.left = new"),
    "take beyond": ("take", TAKER + "; out = none; out = out.up"), "take none": ("take", ""), "take all": ("take", "root = none"),
    "endless": ("drop", "at = root; down not at is none; if at < key; go left; end; end; root = none"),
    "cut": ("find", "at = root; if at is none; quit; end; at.left = none; out = at"),
    "cut first": ("first", "at = root; if at is none; quit; end; par = at.right; if par is none; quit; end; root = par; "
                           "par.up = none; out = at"),
    "spoil": ("next", "par = at.up; if par is none; quit; end; par gets at; out = par"),
    "stuck": ("next", "up not at is none; if not from left; keep out; else; go up; end; end"),
    "fall": ("next", "out = at; par = at.right; par = par.right"),
    "cut next": ("next", "par = at.right; if par is none; quit; end; at.right = none; out = par"),
    "after beyond": ("after", AFTER + "; at = out.up"),
}
WITHOUT_UPS = {
    "put": ("put", PUT_DOWN), "drop": ("drop", DROP_DOWN), "drop moved": ("drop", DROP_MOVED_DOWN), "find": ("find", FIND),
    "first": ("first", FIRST), "after": ("after", AFTER), "after twice": ("after", AFTER_TWICE),
    "put nowhere": ("put", "out = new"), "put ring": ("put", "root = new; new.left = new"), "drop none": ("drop", ""),
    "endless": ("drop", "at = root; down not at is none; if at < key; go left; end; end; root = none"),
    "cut": ("find", "at = root; if at is none; quit; end; at.left = none; out = at"),
    "swap": ("drop", "at = root; if at is none; quit; end; low = at.left; par = at.right; at.left = par; at.right = low"),
}


def codes_of(table, ups):
    return {name: code_of(kind, ups, rows) for name, (kind, rows) in table.items()}


CODES = {True: codes_of(WITH_UPS, True), False: codes_of(WITHOUT_UPS, False)}


def store_of(tree=None, ups=True):
    return Store(ups, CODES[ups], tree)


def chain(many, side):
    """A tree of so many nodes, each one on the side of the one above it."""
    tree = None
    for number in range(many):
        item = (-10 * number if side else 10 * number, number)
        tree = (None, item, tree) if side else (tree, item, None)
    return tree


class Model:
    """What a store should be: the told tree, played on by `play`, and the store's numbers of its nodes."""

    def __init__(self, ups, codes, tree):
        self.codes = codes
        self.tree = tree
        self.numbers = list(range(len(all_items(tree))))
        self.fresh = len(self.numbers)
        self.past = []
        self.walkers = {}

    def items(self):
        return dict(zip(self.numbers, all_items(self.tree)))

    def played(self, code, handed):
        """The play on the told tree, and what it should tell in the store's numbers."""
        if code.kind in ("next", "take", "leave"):
            handed = self.numbers.index(handed)
        done = play(code, self.tree, handed)
        names = dict(enumerate(self.numbers + [self.fresh]))
        names[None] = None
        told = {"ended": done.ended, "out": names[done.out], "root": names[done.root], "compares": done.compares,
                "broken": done.broken, "told": done.told(), "lines": done.lines(), "sides": done.sides(),
                "stations": done.stations(), "held": {names[node]: item for node, item in done.held().items()},
                "links": {names[node]: tuple(names[one] for one in ways) for node, ways in done.links().items()}}
        return done, told

    def do(self, name, handed):
        code = self.codes[name]
        done, told = self.played(code, handed)
        if done.ended == "done" and "tree" not in done.broken:
            self.past.append((self.tree, self.numbers))
            self.numbers = in_order(told["links"], told["root"])
            self.tree = done.told()
            self.fresh += code.kind == "put"
        return told

    def undo(self):
        self.tree, self.numbers = self.past.pop()

    def walk(self, name, node):
        self.walkers[name] = (node, self.items()[node])

    def go_on(self, name, deed, other):
        node, item = self.walkers[name]
        if node is None:
            return None
        inside = node in self.numbers
        done, told = self.played(self.codes[deed if inside else other], node if inside else item[0])
        if done.ended == "done":
            self.walkers[name] = (told["out"], item if told["out"] is None else self.items()[told["out"]])
        return told


def in_order(ways, root):
    if root is None:
        return []
    return in_order(ways, ways[root][0]) + [root] + in_order(ways, ways[root][1])


def told_of(done):
    """What a Play tells."""
    if done is None:
        return None
    return {"ended": done.ended, "out": done.out, "root": done.root, "compares": done.compares, "broken": done.broken,
            "told": done.told(), "lines": done.lines(), "sides": done.sides(), "stations": done.stations(),
            "held": done.held(), "links": done.links()}


class AgainstAModel(unittest.TestCase):
    """Long rows of deeds, undos and walkers, always the same ones, held against the model."""

    def agree(self, store, model):
        self.assertEqual(store.present(), model.tree)
        self.assertEqual(store.numbered(), model.items())
        self.assertEqual((len(store), store.undoable()), (len(model.numbers), len(model.past)))
        for name, stands in model.walkers.items():
            self.assertEqual(store.walker(name), stands)

    def step(self, store, model, chance, names):
        word = chance.random()
        if word < 0.15 and model.past:
            model.undo()
            self.assertIsNone(store.undo())
        elif word < 0.25 and model.numbers:
            name, node = chance.choice("abc"), chance.choice(model.numbers)
            model.walk(name, node)
            self.assertIsNone(store.walk(name, node))
        elif word < 0.5 and model.walkers and "next" in store_codes(model):
            name = chance.choice(sorted(model.walkers))
            deed = chance.choice(["next", "next", "next less", "spoil", "stuck", "fall", "cut next"])
            other = chance.choice(["after", "after twice", "after beyond"])
            self.assertEqual(told_of(store.go_on(name, deed, other)), model.go_on(name, deed, other))
        else:
            name = chance.choice(names)
            handed = self.handed(model, chance, model.codes[name].kind)
            if handed != "nothing":
                self.assertEqual(told_of(store.do(name, handed)), model.do(name, handed))

    def handed(self, model, chance, kind):
        items = list(model.items().values())
        if kind in ("next", "take", "leave"):
            return chance.choice(model.numbers) if model.numbers else "nothing"
        if kind == "first":
            return None
        key = chance.choice(items)[0] if items and chance.random() < 0.6 else chance.randrange(-50, 50)
        if kind != "put":
            return key
        while any(one == key for one, _ in items):
            key = chance.randrange(-500, 500)
        mark = chance.randrange(10 ** 6)
        return "nothing" if any(one == mark for _, one in items) else (key, mark)

    def rows_of_deeds(self, ups, tree, number, steps, names):
        store, model, chance = store_of(tree, ups), Model(ups, CODES[ups], tree), random.Random(number)
        for _ in range(steps):
            self.step(store, model, chance, names)
            self.agree(store, model)
        while model.past:
            model.undo()
            store.undo()
            self.agree(store, model)
        self.assertEqual(store.present(), tree)

    def test_rows_of_all_deeds(self):
        for ups in (True, False):
            for number, tree in enumerate([None, ONE, FOUR] + TREES[4] + TREES[5][:20]):
                self.rows_of_deeds(ups, tree, number, 60, sorted(CODES[ups]))

    def test_long_rows_of_right_deeds(self):
        names = ["put", "put", "put above", "take", "move", "refill", "drop", "drop moved", "leave", "leave moved", "find"]
        self.rows_of_deeds(True, None, 1, 600, ["put"] * 6 + names)
        names = ["put"] * 4 + ["drop", "drop moved", "find", "after", "first"]
        self.rows_of_deeds(False, None, 2, 400, names)

    def test_large_and_deep_stores(self):
        names = ["put", "take", "move", "drop", "find"]
        for tree in (of_items([(7 * n, n) for n in range(200)]), chain(100, 0), chain(100, 1)):
            self.rows_of_deeds(True, tree, 3, 120, names)

    def test_a_long_row(self):
        store, chance = store_of(of_items([(7 * n, n) for n in range(200)])), random.Random(4)
        kept = {item[0]: item for item in store.numbered().values()}
        for number in range(2000):
            if number % 2:
                key = chance.choice(sorted(kept))
                store.do("drop moved", key)
                del kept[key]
            else:
                key = 7 * number + 10 ** 6
                store.do("put", (key, -number - 1))
                kept[key] = (key, -number - 1)
        self.assertEqual(all_items(store.present()), tuple(sorted(kept.values())))
        self.assertEqual(store.undoable(), 2000)
        for _ in range(2000):
            store.undo()
        self.assertEqual(store.present(), of_items([(7 * n, n) for n in range(200)]))


def store_codes(model):
    return [name for name, code in model.codes.items() if code.kind == "next"]


class Making(unittest.TestCase):
    def fate(self, *arguments):
        try:
            Store(*arguments)
        except BadUps as error:
            return "BadUps", error.ups
        except BadName as error:
            return "BadName", error.name
        except BadTree as error:
            return "BadTree", error.tree
        return "right"

    def test_the_empty_tree(self):
        store = Store(True, {})
        self.assertEqual((store.present(), store.numbered(), len(store), store.undoable()), (None, {}, 0, 0))
        self.assertIs(store.ups, True)
        self.assertIs(Store(False, {}).ups, False)

    def test_a_tree(self):
        for ups in (True, False):
            for many in range(6):
                for tree in TREES[many]:
                    store = store_of(tree, ups)
                    self.assertEqual((store.present(), len(store)), (tree, many))
                    self.assertEqual(store.numbered(), dict(enumerate(all_items(tree))))

    def test_ups(self):
        for ups in odd_values() + [None, "True", 1.0, 0.0]:
            with self.assertRaises(BadUps) as caught:
                Store(ups, {1: 2}, 3)
            self.assertIs(caught.exception.ups, ups)

    def test_names(self):
        put, down = code_of("put", True, PUT), code_of("put", False, PUT_DOWN)
        for name in (1, None, True, ("put",), b"put", 1.5, frozenset(), float("nan")):
            with self.assertRaises(BadName) as caught:
                Store(True, {"put": put, name: put, 7: put}, 3)
            self.assertIs(caught.exception.name, name)
        for value in odd_values() + [None, "put", PUT, down, Code, True]:
            self.assertEqual(self.fate(True, {"one": put, "two": value, 3: put}, 3), ("BadName", "two"))
        self.assertEqual(self.fate(False, {"one": down, "two": put}), ("BadName", "two"))
        self.assertEqual(self.fate(True, {"": put, "a b": put}), "right")

    def test_the_first_name_is_told(self):
        put = code_of("put", True, PUT)
        self.assertEqual(self.fate(True, {5: put, "b": None, "a": None}), ("BadName", 5))
        self.assertEqual(self.fate(True, {"b": None, 5: put, "a": None}), ("BadName", "b"))

    def test_trees(self):
        for tree in odd_values() + [(), (None, (1, 2)), ((None, (2, 1), None), (1, 2), None), [None, (1, 2), None],
                                    (None, (True, 2), None), ((None, (1, 2), None), (3, 2), None)]:
            with self.assertRaises(BadTree) as caught:
                Store(True, CODES[True], tree)
            self.assertIs(caught.exception.tree, tree)

    def test_the_order_of_errors(self):
        self.assertEqual(self.fate(1, {1: 1}, 1), ("BadUps", 1))
        self.assertEqual(self.fate(True, {1: 1}, 1), ("BadName", 1))
        self.assertEqual(self.fate(True, {}, 1), ("BadTree", 1))

    def test_all_are_tree_errors(self):
        for arguments in ((1, {}), (True, {1: 1}), (True, {}, 1)):
            with self.assertRaises(TreeError):
                Store(*arguments)

    def test_the_dict_is_copied(self):
        codes = {"put": code_of("put", True, PUT)}
        store = Store(True, codes)
        codes["take"] = code_of("take", True, TAKER)
        del codes["put"]
        store.do("put", (1, 1))
        with self.assertRaises(NoDeed):
            store.do("take", 0)

    def test_what_is_handed_out_is_new(self):
        store = store_of(FOUR)
        store.numbered().clear()
        done = store.do("find", 4)
        done.links().clear()
        done.held().clear()
        self.assertEqual((store.present(), len(done.links()), len(done.held())), (FOUR, 4, 4))

    def test_arguments_by_name(self):
        store = Store(tree=FOUR, codes=CODES[True], ups=True)
        self.assertEqual(store.do(handed=4, name="find").out, 1)
        self.assertEqual(store.do(name="first").out, 0)
        self.assertIsNone(store.walk(node=1, name="w"))
        self.assertEqual(store.walker(name="w"), (1, (4, 12)))
        self.assertEqual(store.go_on(other="after", deed="next", name="w").out, 2)
        self.assertEqual(store.go_on(deed="next", name="w").out, 3)

    def test_a_store_is_not_iterated_over(self):
        with self.assertRaises(TypeError):
            iter(store_of(FOUR))


class Deeds(unittest.TestCase):
    def test_numbers_for_good(self):
        store = store_of(FOUR)
        done = store.do("put", (5, 15))
        self.assertIsInstance(done, Play)
        self.assertEqual((done.held()[4], done.links()[4], done.links()[2]), ((5, 15), (None, None, 2), (4, 3, 1)))
        store.do("take", 1)
        self.assertEqual(store.numbered(), {0: (1, 11), 4: (5, 15), 2: (6, 13), 3: (9, 14)})
        done = store.do("find", 5)
        self.assertEqual((done.out, done.root, sorted(done.links())), (4, 2, [0, 2, 3, 4]))
        self.assertEqual(store.do("next", 4).out, 2)
        self.assertEqual(store.do("put", (7, 12)).held()[5], (7, 12))

    def test_an_item_that_moves(self):
        store = store_of(FOUR)
        done = store.do("move", 1)
        self.assertEqual((done.broken, done.ended), (("steady",), "done"))
        self.assertEqual(store.numbered(), {0: (1, 11), 1: (6, 13), 3: (9, 14)})
        self.assertEqual(done.links()[2], (None, None, None))
        self.assertNotIn(2, store.do("first").links())

    def test_a_put_that_is_taken_back_and_its_number(self):
        store = store_of(ONE)
        self.assertIn(1, store.do("put", (6, 8)).links())
        store.undo()
        self.assertEqual((store.present(), store.numbered()), (ONE, {0: (5, 7)}))
        self.assertIn(2, store.do("put", (6, 8)).links())
        self.assertEqual(store.numbered(), {0: (5, 7), 2: (6, 8)})
        with self.assertRaises(BadHanded):
            store.do("next", 1)

    def test_deeds_that_do_not_stay(self):
        for name, ended, handed in (("put loose", "done", (6, 8)), ("put ring", "done", (6, 8)), ("take beyond", "beyond", 0),
                                    ("endless", "endless", 5)):
            store = store_of(ONE)
            store.walk("w", 0)
            done = store.do(name, handed)
            self.assertEqual(done.ended, ended)
            self.assertEqual((store.present(), store.numbered(), store.undoable()), (ONE, {0: (5, 7)}, 0))
            self.assertEqual(store.walker("w"), (0, (5, 7)))
            # It used no number.
            self.assertIn(1, store.do("put", (6, 8)).links())

    def test_a_put_that_stays_outside_the_tree_uses_its_number(self):
        store = store_of(ONE)
        self.assertEqual(store.do("put nowhere", (6, 8)).out, 1)
        self.assertEqual((store.present(), store.undoable()), (ONE, 1))
        self.assertIn(2, store.do("put", (6, 8)).links())

    def test_deeds_that_change_what_they_should_not(self):
        store = store_of(FOUR)
        done = store.do("cut first")
        # What was cut off keeps its links in this play, and is no node of the tree behind it.
        self.assertEqual((done.out, done.links()[1], done.links()[0]), (1, (0, 2, None), (None, None, 1)))
        self.assertEqual((done.broken, store.numbered()), (("items",), {2: (6, 13), 3: (9, 14)}))
        self.assertEqual(sorted(store.do("find", 4).links()), [2, 3])
        store.do("put", (4, 12))
        self.assertEqual(store.numbered()[4], (4, 12))
        store.do("take all", 2)
        self.assertEqual((store.present(), len(store)), (None, 0))
        for _ in range(4):
            store.undo()
        self.assertEqual(store.present(), FOUR)

    def test_deeds_that_change_nothing_stay(self):
        store = store_of(FOUR)
        for name, handed in (("find", 4), ("first", None), ("next", 1), ("after", 9), ("take none", 1)):
            store.do(name, handed)
        self.assertEqual((store.undoable(), store.present()), (5, FOUR))

    def test_one_node_and_none(self):
        store = store_of()
        self.assertEqual((store.do("first").out, store.do("find", 3).out, store.do("after", 3).out), (None, None, None))
        for name in ("next", "take", "leave"):
            for handed in (0, None, -1):
                with self.assertRaises(BadHanded):
                    store.do(name, handed)
        store.do("put", (3, 3))
        self.assertEqual((store.present(), store.numbered()), ((None, (3, 3), None), {0: (3, 3)}))
        store.do("take", 0)
        self.assertEqual((store.present(), len(store), store.numbered()), (None, 0, {}))
        store.undo()
        self.assertEqual((store.numbered(), store.do("next", 0).out), ({0: (3, 3)}, None))

    def test_up_links_and_none(self):
        for ups in (True, False):
            store = store_of(FOUR, ups)
            self.assertEqual(store.do("find", 4).links()[2], (None, 3, 1 if ups else None))
            self.assertEqual(store.do("put", (5, 5)).links()[4], (None, None, 2 if ups else None))
            self.assertEqual(store.present()[2][0], (None, (5, 5), None))

    def test_marks_of_items_that_are_gone(self):
        store = store_of(FOUR)
        store.do("take", 1)
        store.do("put", (4, 12))
        with self.assertRaises(BadHanded):
            store.do("put", (5, 12))
        store.undo()
        store.do("put", (5, 12))
        self.assertEqual(store.numbered()[5], (5, 12))

    def test_deeds_of_all_kinds_on_all_trees(self):
        for many in range(5):
            for tree in TREES[many]:
                for name, code in CODES[True].items():
                    for handed in handed_for(code.kind, many):
                        store = store_of(tree)
                        self.assertEqual(told_of(store.do(name, handed)), told_of(play(code, tree, handed)), name)


class Undoing(unittest.TestCase):
    def test_undo(self):
        store = store_of(FOUR)
        seen = []
        for name, handed in (("put", (5, 5)), ("refill", 1), ("find", 4), ("drop", 6), ("leave moved", 0)):
            seen.append((store.present(), store.numbered()))
            store.do(name, handed)
        self.assertEqual(store.undoable(), 5)
        while seen:
            self.assertIsNone(store.undo())
            self.assertEqual((store.present(), store.numbered()), seen.pop())
            self.assertEqual(store.undoable(), len(seen))
        with self.assertRaises(NothingToUndo):
            store.undo()
        self.assertEqual((store.present(), store.undoable()), (FOUR, 0))

    def test_nothing_to_undo(self):
        store = store_of(ONE)
        store.walk("w", 0)
        store.go_on("w", "next")
        store.do("put loose", (6, 6))
        with self.assertRaises(TreeError):
            store.undo()
        store.do("put", (6, 6))
        store.undo()
        with self.assertRaises(NothingToUndo):
            store.undo()

    def test_links_come_back(self):
        store = store_of(FOUR)
        before = store.do("find", 1).links()
        store.do("take", 1)
        store.undo()
        self.assertEqual(store.do("find", 1).links(), before)

    def test_walkers_stay_where_they_are(self):
        store = store_of(FOUR)
        store.do("put", (5, 15))
        store.walk("new", 4)
        store.walk("old", 2)
        store.undo()
        self.assertEqual((store.walker("new"), store.walker("old")), ((4, (5, 15)), (2, (6, 13))))
        # The node of the put is gone for good.
        store.do("put", (5, 16))
        self.assertEqual(store.go_on("new", "next", "after").out, 2)
        store.do("take", 2)
        store.go_on("old", "next", "after")
        self.assertEqual(store.walker("old"), (3, (9, 14)))
        store.walk("back", 3)
        store.do("take", 3)
        store.undo()
        self.assertEqual((store.walker("back"), store.go_on("back", "next").out), ((3, (9, 14)), None))


class Walkers(unittest.TestCase):
    def test_a_walk(self):
        store = store_of(FOUR)
        self.assertIsNone(store.walk("w", 0))
        for told in ((0, (1, 11)), (1, (4, 12)), (2, (6, 13)), (3, (9, 14))):
            self.assertEqual(store.walker("w"), told)
            done = store.go_on("w", "next")
            self.assertIsInstance(done, Play)
        self.assertEqual((done.out, store.walker("w")), (None, (None, (9, 14))))
        self.assertIsNone(store.go_on("w", "next", "no deed"))
        self.assertEqual((store.walker("w"), store.undoable(), store.present()), ((None, (9, 14)), 0, FOUR))

    def test_a_walk_past_the_end_behind_a_put(self):
        store = store_of(ONE)
        store.walk("w", 0)
        store.go_on("w", "next")
        store.do("put", (9, 9))
        self.assertIsNone(store.go_on("w", "next", "after"))
        store.walk("w", 0)
        self.assertEqual((store.go_on("w", "next").out, store.walker("w")), (1, (1, (9, 9))))

    def test_at_a_node_that_was_taken(self):
        store = store_of(FOUR)
        store.walk("w", 1)
        store.do("take", 1)
        self.assertEqual(store.walker("w"), (1, (4, 12)))
        for other in odd_values() + [None, "next", "find", "no deed", ("after",)]:
            with self.assertRaises(NoDeed) as caught:
                store.go_on("w", "next", other)
            self.assertIs(caught.exception.name, other)
        self.assertEqual(store.walker("w"), (1, (4, 12)))
        done = store.go_on("w", "next", "after")
        self.assertEqual((done.out, done.compares, store.walker("w")), (2, 2, (2, (6, 13))))

    def test_at_a_node_whose_item_was_moved(self):
        store = store_of(FOUR)
        store.walk("w", 2)
        store.walk("v", 1)
        store.do("move", 1)
        # The item told last lies in the node 1 now, and the walker's own node is out of the tree.
        self.assertEqual(store.go_on("w", "next", "after").out, 3)
        self.assertEqual(store.walker("v"), (1, (4, 12)))
        # The other one goes on from an item that it has not told.
        self.assertEqual((store.go_on("v", "next").out, store.walker("v")), (3, (3, (9, 14))))

    def test_other_is_looked_at_only_where_it_is_needed(self):
        for other in odd_values() + [None, "no deed", "find"]:
            store = store_of(FOUR)
            store.walk("w", 0)
            self.assertEqual(store.go_on("w", "next", other).out, 1)

    def test_the_last_node_taken(self):
        store = store_of(ONE)
        store.walk("w", 0)
        store.do("take", 0)
        self.assertEqual(store.go_on("w", "next", "after").out, None)
        self.assertEqual(store.walker("w"), (None, (5, 7)))
        self.assertIsNone(store.go_on("w", "next", "no deed"))

    def test_going_on_changes_no_tree(self):
        for deed, out in (("cut next", 2), ("spoil", None)):
            store = store_of(FOUR)
            store.walk("w", 1)
            self.assertEqual(store.go_on("w", deed).out, out)
            self.assertEqual((store.present(), store.undoable()), (FOUR, 0))
        store = store_of(FOUR)
        store.walk("w", 2)
        done = store.go_on("w", "spoil")
        # The play gave the node 1 another item; the tree has the old one, which the walker tells.
        self.assertEqual((done.out, done.held()[1], store.walker("w")), (1, (6, 13), (1, (4, 12))))

    def test_plays_that_are_not_done(self):
        for deed, ended, node in (("stuck", "endless", 1), ("fall", "beyond", 3)):
            store = store_of(FOUR)
            store.walk("w", node)
            done = store.go_on("w", deed)
            self.assertEqual((done.ended, store.walker("w")), (ended, (node, all_items(FOUR)[node])))
        store = store_of(FOUR)
        store.walk("w", 3)
        store.do("take", 3)
        self.assertEqual(store.go_on("w", "next", "after beyond").ended, "beyond")
        self.assertEqual(store.walker("w"), (3, (9, 14)))

    def test_walkers_and_stores_do_not_touch_one_another(self):
        store, other = store_of(FOUR), store_of(FOUR)
        store.walk("w", 0)
        store.walk("v", 0)
        store.go_on("w", "next")
        store.do("take", 3)
        self.assertEqual((store.walker("w"), store.walker("v")), ((1, (4, 12)), (0, (1, 11))))
        self.assertEqual((other.present(), other.undoable()), (FOUR, 0))
        with self.assertRaises(NoWalker):
            other.walker("w")

    def test_a_walker_is_replaced(self):
        store = store_of(FOUR)
        store.walk("w", 0)
        store.walk("w", 3)
        self.assertEqual(store.walker("w"), (3, (9, 14)))
        store.go_on("w", "next")
        store.walk("w", 2)
        self.assertEqual(store.walker("w"), (2, (6, 13)))


class Errors(unittest.TestCase):
    def setUp(self):
        self.store = store_of(FOUR)
        self.store.do("put", (5, 15))
        self.store.walk("w", 1)
        self.store.walk("gone", 4)
        self.store.undo()
        self.store.walk("end", 3)
        self.store.go_on("end", "next")
        self.store.do("find", 3)

    def tearDown(self):
        """Nothing was changed by any error."""
        self.assertEqual((self.store.present(), self.store.undoable(), len(self.store)), (FOUR, 1, 4))
        told = [self.store.walker(name) for name in ("w", "gone", "end")]
        self.assertEqual(told, [(1, (4, 12)), (4, (5, 15)), (None, (9, 14))])
        self.assertIn(5, self.store.do("put", (5, 15)).links())

    def raises(self, error, field, value, ask):
        with self.assertRaises(error) as caught:
            ask()
        self.assertIs(getattr(caught.exception, field), value)

    def test_deeds(self):
        for name in odd_values() + [None, True, "", "Put", "w", ("put",), [], {}]:
            self.raises(NoDeed, "name", name, lambda: self.store.do(name, "nothing"))
            self.raises(NoDeed, "name", name, lambda: self.store.do(name))

    def test_what_is_handed(self):
        values = odd_values() + [None, True, False, "5", (1, 1), (5, 11), (True, 3), [5, 5], (5,), (5, 5, 5), 4, 5, -1,
                                 10 ** 30, 1.0]
        for name, code in CODES[True].items():
            for handed in values:
                if code.kind == "put" or code.kind in ("next", "take", "leave"):
                    can = type(handed) is int and 0 <= handed < 4 and code.kind != "put"
                else:
                    can = handed is None if code.kind == "first" else type(handed) is int
                if not can:
                    self.raises(BadHanded, "handed", handed, lambda: self.store.do(name, handed))

    def test_walkers(self):
        for name in odd_values() + [None, True, ("w",), ["w"]]:
            self.raises(BadName, "name", name, lambda: self.store.walk(name, "nowhere"))
            self.raises(NoWalker, "name", name, lambda: self.store.walker(name))
            self.raises(NoWalker, "name", name, lambda: self.store.go_on(name, None, None))
        for name in ("", "W", "put"):
            self.raises(NoWalker, "name", name, lambda: self.store.walker(name))
            self.raises(NoWalker, "name", name, lambda: self.store.go_on(name, "next", "after"))
        for node in odd_values() + [None, True, False, "1", 4, 5, -1, (1,), [1], 1.0]:
            if type(node) is int and 0 <= node < 4:
                continue
            self.raises(BadHanded, "handed", node, lambda: self.store.walk("w", node))
            self.raises(BadHanded, "handed", node, lambda: self.store.walk("another", node))
        self.raises(NoWalker, "name", "another", lambda: self.store.walker("another"))

    def test_deeds_for_going_on(self):
        for deed in odd_values() + [None, True, "", "after", "take", "put", "leave", "w", ("next",), ["next"]]:
            for name in ("w", "gone", "end"):
                self.raises(NoDeed, "name", deed, lambda: self.store.go_on(name, deed, "after"))
        for other in odd_values() + [None, True, "", "next", "find", "put", ("after",)]:
            self.raises(NoDeed, "name", other, lambda: self.store.go_on("gone", "next", other))

    def test_no_such_deed_in_a_store_without_ups(self):
        store = store_of(FOUR, False)
        store.walk("w", 0)
        self.raises(NoDeed, "name", "next", lambda: store.go_on("w", "next"))
        self.raises(NoDeed, "name", "after", lambda: store.go_on("w", "after", "after"))

    def test_trees_that_are_told_are_told_trees(self):
        self.assertTrue(is_told(self.store.present()))
        self.assertEqual((height(self.store.present()), links(self.store.present())[2]), (3, (None, 3, 1)))
