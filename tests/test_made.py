"""Verdicts and uses of many codes, held against the plays on all trees of up to four nodes."""

import unittest

from nextcode.promises import PROMISES
from nextcode.verdicts import kept
from tests.brute import disagreements
from tests.made import freely_made, with_slips


class Made(unittest.TestCase):
    def codes(self, make, numbers):
        """The codes of these numbers that are some; enough of them, and of each promise some that break it."""
        found = [code for code in [make(number) for number in numbers] if code is not None]
        self.assertGreater(len(found), len(numbers) // 4)
        for promise in PROMISES:
            if (make, promise) != (freely_made, "steady"):
                self.assertTrue(any(promise not in kept(code) for code in found), promise)
        return found

    def test_right_codes_with_slips(self):
        for code in self.codes(with_slips, range(1200)):
            self.assertEqual(disagreements(code, 4), [], (code.kind, code.ups, code.text))

    def test_codes_that_are_freely_made(self):
        for code in self.codes(freely_made, range(1200)):
            self.assertEqual(disagreements(code, 4), [], (code.kind, code.ups, code.text))
