"""Codes for the tests: right ones for each kind, and the same with slips."""

from nextcode.codes import Code
from tests.helper import text_of

WALK = "at = root; down not at is none; keep par; if new < at; go left; else; go right; end; end; "
HANG = ("if par is none; root = low; else; if par.left is top; par.left = low; else; par.right = low; end; end")
HANG_UP = "par = top.up; if not low is none; low.up = par; end; " + HANG
SEEK = ("at = root; down not at is none; if key is at; stop; end; keep par; if key < at; go left; else; go right; end; "
        "end; ")
# The node that is gone is replaced by the least one to its right, below which its left subtree is hung.
LEAST_RIGHT = "at = at.right; down not at.left is none; go left; end; "
TAKE = "top = at; if at.right is none; low = at.left; else; " + LEAST_RIGHT
ONE_LESS = "top gets at; top = at; end; low = top.left; if low is none; low = top.right; end; "

PUT = WALK + ("new.up = par; if par is none; root = new; else; if new < par; par.left = new; else; par.right = new; "
              "end; end")
PUT_DOWN = PUT.replace("new.up = par; ", "")
PUT_SIDES = ("at = root; if at is none; root = new; quit; end; down not at is none; keep par; if at < new; keep low; "
             "go right; else; keep top; go left; end; end; new.up = par; if par is low; low.right = new; else; "
             "top.left = new; end")
PUT_ABOVE = WALK + ("if par is none; root = new; quit; end; top = par.up; new.up = top; par.up = new; if new < par; "
                    "new.right = par; else; new.left = par; end; if top is none; root = new; else; "
                    "if top.left is par; top.left = new; else; top.right = new; end; end")
FIND = ("at = root; down not at is none; if key is at; keep out; stop; end; if key < at; go left; else; go right; end; "
        "end")
FIND_LATE = ("at = root; down not at is none; if key < at; go left; else; keep out; go right; end; end; "
             "if not out is none; if not key is out; out = none; end; end")
AFTER = "at = root; down not at is none; if key < at; keep out; go left; else; go right; end; end"
AFTER_TWICE = ("at = root; down not at is none; if key < at; keep out; go left; else; if key is at; stop; end; "
               "go right; end; end; if at is none; quit; end; if at.right is none; quit; end; " + LEAST_RIGHT
               + "out = at")
FIRST = "at = root; down not at is none; keep out; go left; end"
FIRST_LAST = "at = root; if at is none; quit; end; down not at.left is none; go left; end; out = at"
NEXT = ("if at.right is none; up not at is none; if from left; stop; end; go up; end; else; " + LEAST_RIGHT
        + "end; out = at")
NEXT_LESS = ("top = at; if not at.right is none; at = at.right; down not at is none; keep out; go left; end; quit; "
             "end; up not at is none; if top < at; keep out; quit; end; go up; end")
TAKER = TAKE + "par = top.left; at.left = par; if not par is none; par.up = at; end; low = top.right; end; " + HANG_UP
MOVER = "top = at; if not at.right is none and not at.left is none; " + LEAST_RIGHT + ONE_LESS + HANG_UP
LEAVE = ("top = at; if at.right is none; up not at is none; if from left; stop; end; go up; end; out = at; "
         "low = top.left; else; " + LEAST_RIGHT + "out = at; par = top.left; at.left = par; if not par is none; "
         "par.up = at; end; low = top.right; end; " + HANG_UP)
LEAVE_MOVED = ("top = at; if not at.right is none; " + LEAST_RIGHT + "out = at; if not top.left is none; top gets at; "
               "out = top; top = at; end; else; up not at is none; if from left; stop; end; go up; end; out = at; end; "
               "low = top.left; if low is none; low = top.right; end; " + HANG_UP)
DROP_DOWN = (SEEK + "if at is none; quit; end; " + TAKE + "out = top.left; at.left = out; low = top.right; end; "
             + HANG)
DROP = (DROP_DOWN.replace("at.left = out; ", "at.left = out; if not out is none; out.up = at; end; ")
        .replace(HANG, "if not low is none; low.up = par; end; " + HANG))
DROP_MOVED_DOWN = (SEEK + "if at is none; quit; end; top = at; if not at.right is none and not at.left is none; "
                   "par = at; " + LEAST_RIGHT.replace("go left", "keep par; go left") + ONE_LESS + HANG)
DROP_MOVED = DROP_MOVED_DOWN.replace(HANG, "if not low is none; low.up = par; end; " + HANG)
# An item moves to the node of the one taken, and another one to its own node, which stays in the tree.
REFILL_GREATER = ("top = at; if not at.right is none and not at.left is none; " + LEAST_RIGHT + "top gets at; top = at; "
                  "par = top.right; if not par is none and par.left is none; top gets par; top = par; end; end; "
                  "low = top.left; if low is none; low = top.right; end; " + HANG_UP)
REFILL_LESS = REFILL_GREATER.replace("par = top.right", "par = top.left").replace("par.left is none", "par.right is none")
REFILL_LESS = REFILL_LESS.replace(LEAST_RIGHT, "at = at.left; down not at.right is none; go right; end; ")
SEEK_ONE = SEEK + "if at is none; quit; end; "

# The kind, whether with ups, and the rows.
KEEPING_ALL = [
    ("find", True, FIND), ("find", False, FIND), ("find", True, FIND_LATE), ("find", False, FIND_LATE),
    ("after", True, AFTER), ("after", False, AFTER), ("after", True, AFTER_TWICE), ("after", False, AFTER_TWICE),
    ("first", True, FIRST), ("first", False, FIRST), ("first", True, FIRST_LAST), ("first", False, FIRST_LAST),
    ("next", True, NEXT), ("next", True, NEXT_LESS),
    ("put", True, PUT), ("put", False, PUT_DOWN), ("put", True, PUT_SIDES), ("put", True, PUT_ABOVE),
    ("take", True, TAKER), ("leave", True, LEAVE), ("drop", True, DROP), ("drop", False, DROP_DOWN),
]
MOVING = [("take", True, MOVER), ("leave", True, LEAVE_MOVED), ("drop", True, DROP_MOVED),
          ("drop", False, DROP_MOVED_DOWN)]
REFILLING = [("take", True, REFILL_GREATER), ("take", True, REFILL_LESS), ("drop", True, SEEK_ONE + REFILL_GREATER),
             ("drop", True, SEEK_ONE + REFILL_LESS)]


def code_of(kind, ups, rows):
    return Code(kind, text_of(rows), ups)


def changed(kind, ups, rows, old, new, promise, many):
    """A slip: the rows with something put in place of something else, once; the promise that is broken by it, or None
    for none, and the least number of nodes with which it is."""
    assert old in rows, (rows, old)
    return kind, ups, rows.replace(old, new, 1), promise, many


SLIPS = [
    changed("put", True, PUT, "new.up = par; ", "", "tree", 1),
    changed("put", True, PUT, "root = new; ", "", "items", 0),
    changed("put", True, PUT, "if new < par", "if par < new", "tree", 1),
    changed("put", True, PUT, "new < at", "at < new", "tree", 2),
    changed("put", True, PUT, "keep par; ", "", "items", 1),
    changed("put", True, PUT, "down not at is none", "down not at.left is none", "inside", 0),
    changed("put", True, PUT, "par.right = new; ", "", "items", 1),
    changed("put", True, PUT, "go left", "stop", "items", 2),
    changed("put", True, PUT, "new.up = par", "new.up = at", "tree", 1),
    changed("put", False, PUT_DOWN, "if par is none; root = new; else; ", "if not par is none; ", "items", 0),
    changed("put", False, PUT_DOWN, "go right; ", "", "ends", 1),
    changed("put", True, PUT_ABOVE, "par.up = new; ", "", "tree", 1),
    changed("put", True, PUT_ABOVE, "if top.left is par", "if par < top", None, 0),
    changed("put", True, PUT_SIDES, "keep low; ", "keep low; keep top; ", None, 0),
    changed("find", True, FIND, "keep out; ", "", "out", 1),
    changed("find", True, FIND, "key < at", "at < key", "out", 2),
    changed("find", False, FIND_LATE, "if not key is out; out = none; end; ", "", "out", 1),
    changed("find", False, FIND, "go left", "quit", "out", 2),
    changed("after", True, AFTER, "key < at", "not at < key", "out", 1),
    changed("after", True, AFTER, "keep out; go left", "keep out; stop", "out", 2),
    changed("after", False, AFTER_TWICE, "out = at", "at = out", "out", 2),
    changed("after", True, AFTER_TWICE, "if at.right is none; quit; end; ", "", "inside", 1),
    changed("first", True, FIRST, "go left", "go right", "out", 2),
    changed("first", False, FIRST, "not at is none", "not at.left is none", "inside", 0),
    changed("first", False, FIRST_LAST, "if at is none; quit; end; ", "", "inside", 0),
    changed("first", False, FIRST_LAST, "go left; ", "", "ends", 2),
    changed("first", True, FIRST, "go left; end", "go left; end; root = out", "tree", 2),
    changed("first", False, FIRST, "go left; end", "go left; end; root = out", "items", 2),
    changed("next", True, NEXT, "from left", "from right", "out", 2),
    changed("next", True, NEXT, "if from left; stop; end; ", "", "out", 2),
    changed("next", True, NEXT, "down not at.left is none; go left; end; ", "", "out", 3),
    changed("next", True, NEXT, "out = at", "out = at; at.left = none", "inside", 1),
    changed("next", True, NEXT_LESS, "top < at", "at < top", "out", 2),
    changed("take", True, TAKER, "if not par is none; par.up = at; end; ", "", "tree", 3),
    changed("take", True, TAKER, "at.left = par; ", "", "items", 3),
    changed("take", True, TAKER, "root = low", "quit", "items", 1),
    changed("take", True, TAKER, "if not low is none; low.up = par; end; ", "low.up = par; ", "inside", 1),
    changed("take", True, TAKER, "low = top.right; end", "low = at; end", "items", 3),
    changed("take", True, TAKER, "if par.left is top", "if not par.left is top", "items", 2),
    changed("take", True, TAKER, "low = at.left", "low = none", "items", 2),
    changed("take", True, MOVER, "top gets at; ", "", "items", 3),
    changed("take", True, MOVER, "top gets at", "at gets top", "items", 3),
    changed("leave", True, LEAVE, "out = at; low", "out = par; low", "out", 2),
    changed("leave", True, LEAVE_MOVED, "out = top; ", "", "out", 3),
    changed("drop", True, DROP, "if at is none; quit; end; ", "", "inside", 0),
    changed("drop", True, DROP, "keep par; ", "", "items", 2),
    changed("drop", False, DROP_DOWN, "if key is at; stop; end; ", "", "items", 1),
    changed("drop", False, DROP_DOWN, "at.left = out; ", "", "items", 3),
    changed("drop", False, DROP_MOVED_DOWN, "keep par; go left", "go left", "items", 4),
]

DOWN_LEFT = "at = root; top = at; down not at is none; keep out; go left; end; if out is none; quit; end; par = out.up; "
UP_LOW = "low = at; up not at is none; keep par; go up; end; "
# Codes in which something seldom matters: of a path of nodes that no register holds, of the nodes above, and so on.
CORNERS = [
    # A key that is left aside at a node which is neither the root nor the last one.
    ("find", True, DOWN_LEFT + "if not par is none and not par is top and not key < par and key < top; out = none; end"),
    ("find", False, "at = root; if at is none; quit; end; if key is at; out = at; quit; end; down not at is none; "
                    "if key < at; go left; else; go right; end; end"),
    ("drop", False, "at = root; if at is none; quit; end; if key is at; quit; end; down not at is none; keep par; "
                    "if at < key; go right; else; go left; end; end; par = none"),
    # What is known of the links beside a path.
    ("first", True, DOWN_LEFT.replace("go left", "if at.right is none; go left; else; go left; end")
     + "if not par is none and not par is top and par.right is none; out = none; end; if not par is none and "
       "not par is top and not par.right is none; top = par; end"),
    ("first", True, DOWN_LEFT.replace("go left", "if at.right is none; stop; end; go left")
     + "if not par is none and par.right is none; out = none; end; if not par is none and not par is top; "
       "par = par.right; par = par.left; end"),
    ("first", True, DOWN_LEFT.replace("go left", "if not at.right is none; stop; end; go left")
     + "if not par is none and not par is top and par.right is none; out = none; end"),
    ("find", True, DOWN_LEFT.replace("go left", "if key < at; if at.right is none; stop; end; go left; else; go right; end")
     + "if not par is none and not par is top and par.right is none; out = none; end; if not par is none and "
       "not par is top and par.left is none; out = top; end"),
    # A register that keeps none, and one that is asked at a second node that is known.
    ("next", True, "up not from left; keep out; if at is none; stop; end; go up; end"),
    ("next", True, "up not from right; keep out; if at is none; stop; end; go up; end; if out is none; quit; end"),
    ("leave", True, "if root is at.up; quit; end; up not at is none; if from left and at.right is none; keep out; end; "
                    "go up; end"),
    ("leave", True, "if root is at.up; out = at; end; up not at is none and not at.right is none; keep out; go up; end"),
    ("next", True, "at = at.up; if at is none; quit; end; if root is at.up and at.left is none; end; up not at is none; "
                   "if from right; keep out; stop; end; go up; end"),
    # Links of which it is known ahead of a loop that they lead to nodes.
    ("next", True, "if not at.up is none; up not at is none; keep out; go up; end; end"),
    ("first", True, "at = root; if at is none; quit; end; if at.left is none; quit; end; down not at is none; keep out; "
                    "go left; end"),
    # What a loop goes past.
    ("next", True, "low = at; if not at.right is none; at = at.right; down not at.left is none; go left; end; out = at; "
                   "quit; end; up not at is none; keep par; go up; end; if low < par; out = par; end"),
    ("after", False, "at = root; if at is none; quit; end; down not at is none; if key < at; keep out; go left; else; "
                     "go left; end; end; if not out is none; if key < out; quit; end; end; out = none"),
    ("drop", False, DOWN_LEFT.replace("par = out.up; ", "if out is top; quit; end; low = out.right; if low is none; "
                                                        "quit; end; top gets low; out.right = none")),
    ("drop", False, "at = root; top = at; down not at is none; keep out; go right; end; if out is none; quit; end; "
                    "if out is top; quit; end; low = out.left; if low is none; quit; end; top gets low; out.left = none"),
    # A register that a loop compares.
    ("first", True, "at = root; par = at; down at is none; go left; end; if at is none; quit; end; at = at.left; "
                    "down not at is none; if at < par; keep out; go left; else; quit; end; end"),
    ("find", False, "at = root; down not at is none; if key < at; stop; end; keep par; go right; end; if at is none; "
                    "quit; end; at = at.left; down not at is none; if par < at; keep out; go left; else; go right; end; "
                    "end"),
    ("next", True, "par = at; at = at.right; down not at is none; if par < at; keep out; go left; else; quit; end; end"),
    ("leave", True, "par = at; up not at is none; if par < at; keep out; stop; end; if at < par; keep low; end; go up; end"),
    ("drop", False, "at = root; top = at; down not at is none; keep out; if at.right is none; stop; end; go left; end; "
                    "if out is none; quit; end; if not out is top; top.left = out; end"),
    # Whether nodes lie between two that are known.
    ("next", True, UP_LOW + "if not low is par; low.up = par; end"),
    ("next", True, UP_LOW + "if not low is par and root is low.up; out = low; end"),
    ("next", True, UP_LOW + "if not low is par and low.up is par.left; out = low; end"),
    ("next", True, UP_LOW + "if not low is par and low.up is par; out = low; end"),
    ("next", True, UP_LOW + "if not low is par; par.left = low; end"),
    ("take", True, UP_LOW + "if not low is par; low.up = par; par.left = low; end"),
    ("take", True, UP_LOW + "if not low is par; low.up = par; end"),
    ("put", False, WALK + "if not par is none; at = root; at.left = par; end"),
    ("put", True, WALK + "if not par is none; at = root; at.left = par; par.up = at; end"),
    ("put", False, "at = root; top = at; down not at is none; keep par; go right; end; if not par is none; "
                   "if not par is top; top.right = par; end; par.right = new; else; root = new; end"),
    # Items that move past subtrees which are not read.
    ("take", True, "top = at; par = at.left; if par is none; quit; end; low = par.left; if low is none; quit; end; "
                   "top gets par; par gets low; out = low.left; par.left = out; if not out is none; out.up = par; end"),
    ("take", True, "top = at; par = at.right; if par is none; quit; end; low = par.right; if low is none; quit; end; "
                   "top gets par; par gets low; out = low.right; par.right = out; if not out is none; out.up = par; end"),
    ("drop", False, "at = root; if at is none; quit; end; par = at.left; low = at.right; at.left = low; at.right = par"),
    ("drop", False, "at = root; if at is none; quit; end; down not at is none; keep par; go left; end; at = root; "
                    "if not at is par; at gets par; end"),
    ("first", True, "at = root; if at is none; quit; end; at.left = none; at.right = none; out = at"),
    # What hangs above the handed node.
    ("take", True, "root = at; at.up = none"), ("next", True, "root = at; at.up = none"), ("next", True, "root = at"),
    ("next", True, "if not at.right is none; root = none; quit; end; at.up = none"),
    ("take", True, "low = at.left; if low is none; quit; end; root = low; low.up = none; low.right = at; at.left = none"),
    ("next", True, "at.up = none"), ("take", True, "low = at.left; root = low; low.up = none"),
    ("leave", True, "low = at.right; if low is none; quit; end; root = low; low.up = none; out = low"),
    ("leave", True, "if at is root; root = none; end"), ("take", True, "if not at.up is none; at = at.up; at.left = none; end"),
    ("next", True, "if not at.right is none; quit; end; if at.up is none; quit; end; par = at.up; if at < par; out = par; end"),
]
