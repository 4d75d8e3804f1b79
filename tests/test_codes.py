import unittest

from nextcode.codes import Code
from nextcode.errors import BadKind, BadLine, BadUps, Refused, TooMany
from tests.helper import ALL_KINDS, SEARCHES, STANDING, Agreeing, Sour, fate, odd_values

IFS = "if at is none\nend\n"


class Kinds(unittest.TestCase):
    def test_all_kinds(self):
        for kind in ALL_KINDS:
            self.assertEqual(Code(kind, "quit").kind, kind)
            self.assertIs(Code(kind, "quit").ups, True)

    def test_bad_kind(self):
        wrong = odd_values() + [None, True, False, "", "Find", "find ", "finds", "goer", "at", ["find"], ("find",), b"find"]
        for kind in wrong:
            for text in ("quit", "what"):
                for ups in (True, False, None):
                    with self.assertRaises(BadKind) as caught:
                        Code(kind, text, ups)
                    self.assertIs(caught.exception.kind, kind)

    def test_ups(self):
        for kind in SEARCHES:
            self.assertIs(Code(kind, "quit", False).ups, False)
            self.assertIs(Code(kind, "quit", True).ups, True)
        for kind in STANDING:
            with self.assertRaises(BadUps) as caught:
                Code(kind, "what", False)
            self.assertIs(caught.exception.ups, False)

    def test_bad_ups(self):
        for kind in ALL_KINDS:
            for ups in odd_values() + [None, "", "True", [True], (False,)]:
                with self.assertRaises(BadUps) as caught:
                    Code(kind, "what", ups)
                self.assertIs(caught.exception.ups, ups)


class Sizes(unittest.TestCase):
    def test_sixty_and_sixty_one_lines(self):
        for kind in ALL_KINDS:
            self.assertEqual(len(Code(kind, "\n".join(["out = par"] * 60))), 60)
            self.assertEqual(fate(kind, "\n".join(["out = par"] * 61)), ("lines", 61, 60))
            self.assertEqual(fate(kind, "\n".join(["what"] * 60)), ("BadLine", 1))
            self.assertEqual(fate(kind, "\n".join(["what"] * 61)), ("lines", 61, 60))
        self.assertEqual(fate("find", "\n" * 60), ("lines", 61, 60))
        self.assertEqual(fate("find", "\n" * 59), ("BadLine", 1))
        self.assertEqual(fate("find", "quit\n" * 100000), ("lines", 100001, 60))
        self.assertEqual(fate("find", "\n".join(["out = par"] * 59 + ["if at is none"])), ("BadLine", 61))

    def test_seven_and_eight_ifs(self):
        for kind in ALL_KINDS:
            self.assertEqual(fate(kind, IFS * 7 + "quit"), "right")
            self.assertEqual(fate(kind, IFS * 8 + "quit"), ("ifs", 8, 7))
            self.assertEqual(fate(kind, IFS * 25 + "quit"), ("ifs", 25, 7))

    def test_ifs_in_one_another(self):
        for many in (7, 8, 30):
            told = "right" if many == 7 else ("ifs", many, 7)
            self.assertEqual(fate("find", "if at is none\n" * many + "\n".join(["end"] * many)), told)
            if many < 16:
                text = "if at is none\nelse\n" * many + "\n".join(["end"] * many)
                self.assertEqual(fate("find", text), told)

    def test_ifs_on_no_way_count(self):
        self.assertEqual(fate("find", "quit\n" + IFS * 7 + "quit"), "right")
        self.assertEqual(fate("find", "quit\n" + IFS * 8 + "quit"), ("ifs", 8, 7))
        self.assertEqual(fate("find", IFS * 4 + "quit\n" + IFS * 4 + "quit"), ("ifs", 8, 7))

    def test_ifs_in_loops_do_not_count(self):
        loop = "at = root\ndown at is none\n" + IFS * 10 + "end"
        self.assertEqual(fate("find", loop), "right")
        self.assertEqual(fate("find", IFS * 7 + loop), "right")
        self.assertEqual(fate("find", IFS * 8 + loop), ("ifs", 8, 7))
        self.assertEqual(fate("next", "up at is none\n" + IFS * 10 + "end\n" + IFS * 7 + "quit"), "right")


class Order(unittest.TestCase):
    """Several errors are due: the first one in the order of the interface."""

    def test_the_order(self):
        long = "\n".join(["what"] * 61)
        for kind, text, ups, error in (
                ("what", long, 5, BadKind), ("next", long, 5, BadUps), ("next", long, False, BadUps),
                ("next", long, True, TooMany), ("first", IFS * 8 + "out = key", False, BadLine),
                ("first", IFS * 8 + "if key is at\nend\nhow", True, BadLine), ("first", IFS * 8 + "if key is at", True, BadLine),
                ("first", IFS * 8 + "if key is at\nend", True, TooMany), ("first", IFS + "if key is at\nend", True, Refused)):
            with self.assertRaises(error):
                Code(kind, text, ups)

    def test_too_many_tells_what(self):
        with self.assertRaises(TooMany) as caught:
            Code("first", IFS * 8 + "par = new")
        error = caught.exception
        self.assertEqual((error.what, error.many, error.most), ("ifs", 8, 7))

    def test_a_bad_line_behind_a_refused_one(self):
        self.assertEqual(fate("first", "par = new\nwhat"), ("BadLine", 2))
        self.assertEqual(fate("first", "par = new\nif at is none"), ("BadLine", 3))
        self.assertEqual(fate("first", "par = new\nquit"), ("Refused", 1))


class Objects(unittest.TestCase):
    text = "at = root\ndown not at is none\nkeep out\ngo left\nend"

    def test_attributes(self):
        code = Code("first", self.text, False)
        self.assertEqual((code.kind, code.text, code.ups), ("first", self.text, False))
        code = Code(kind="first", text=self.text, ups=True)
        self.assertEqual((code.kind, code.text, code.ups), ("first", self.text, True))

    def test_lines(self):
        code = Code("first", self.text)
        self.assertEqual(len(code), 5)
        self.assertEqual([code[k] for k in (1, 2, 3, 4, 5)], self.text.split("\n"))
        self.assertEqual((len(Code("find", "quit")), Code("find", "quit")[1]), (1, "quit"))

    def test_no_lines(self):
        for kind in ALL_KINDS:
            code = Code(kind, "")
            self.assertEqual((len(code), code.text), (0, ""))

    def test_equal(self):
        code = Code("first", self.text)
        self.assertIs(code == Code("first", self.text), True)
        self.assertIs(code != Code("first", self.text, True), False)
        for other in (Code("find", self.text), Code("first", self.text, False), Code("first", self.text + "\nquit"),
                      Code("first", ""), None, self.text, ("first", self.text, True), 5, object()):
            self.assertIs(code == other, False)
            self.assertIs(other == code, False)
            self.assertIs(code != other, True)

    def test_not_iterated_over(self):
        with self.assertRaises(TypeError):
            iter(Code("first", self.text))
        with self.assertRaises(TypeError):
            list(Code("first", ""))

    def test_values_are_not_asked(self):
        for odd in (Sour(), Agreeing()):
            with self.assertRaises(BadKind):
                Code(odd, "")
            with self.assertRaises(BadUps):
                Code("put", "", odd)
