"""The examples of the interface, as they stand there.

>>> from nextcode.trees import all_items, height, links, of_items, root_of
>>> t = ((None, (1, 11), None), (4, 12), (None, (6, 13), (None, (9, 14), None)))
>>> [all_items(t), height(t), root_of(t), links(t)[2], height(of_items([(5, 1), (3, 2), (8, 3)]))]
[((1, 11), (4, 12), (6, 13), (9, 14)), 3, 1, (None, 3, 1), 2]

>>> from nextcode.codes import Code
>>> put = Code("put", "at = root\\ndown not at is none\\nkeep par\\nif new < at\\ngo left\\nelse\\ngo right\\nend\\nend\\nnew.up = par\\nif par is none\\nroot = new\\nelse\\nif new < par\\npar.left = new\\nelse\\npar.right = new\\nend\\nend")
>>> goer = Code("next", "if at.right is none\\nup not at is none\\nif from left\\nstop\\nend\\ngo up\\nend\\nelse\\nat = at.right\\ndown not at.left is none\\ngo left\\nend\\nend\\nout = at")
>>> finder = Code("after", "at = root\\ndown not at is none\\nif key < at\\nkeep out\\ngo left\\nelse\\ngo right\\nend\\nend")
>>> hang = "par = top.up\\nif not low is none\\nlow.up = par\\nend\\nif par is none\\nroot = low\\nelse\\nif par.left is top\\npar.left = low\\nelse\\npar.right = low\\nend\\nend"
>>> taker = Code("take", "top = at\\nif at.right is none\\nlow = at.left\\nelse\\nat = at.right\\ndown not at.left is none\\ngo left\\nend\\npar = top.left\\nat.left = par\\nif not par is none\\npar.up = at\\nend\\nlow = top.right\\nend\\n" + hang)
>>> mover = Code("take", "top = at\\nif not at.right is none and not at.left is none\\nat = at.right\\ndown not at.left is none\\ngo left\\nend\\ntop gets at\\ntop = at\\nend\\nlow = top.left\\nif low is none\\nlow = top.right\\nend\\n" + hang)
>>> [len(put), goer[3], len(taker), len(mover)]
[19, 'if from left', 28, 26]

>>> from nextcode.play import play
>>> done = play(taker, t, 1)
>>> [done.ended, done.told(), done.root, done.broken, done.links()[1], done.links()[2]]
['done', ((None, (1, 11), None), (6, 13), (None, (9, 14), None)), 2, (), (None, None, None), (0, 3, None)]
>>> [play(goer, t, 1).out, play(goer, t, 0).out, play(goer, t, 3).out, play(goer, t, 0).stations()]
[2, 1, None, ((2, None, False, False, None), (2, 'left', True, True, None))]
>>> [play(put, None, (5, 1)).told(), play(finder, t, 4).out, play(finder, t, 4).compares, play(mover, t, 1).broken]
[(None, (5, 1), None), 2, 2, ('steady',)]

>>> from nextcode.verdicts import keeps, kept, least_case
>>> [kept(put) == kept(goer) == kept(taker) == ("inside", "ends", "tree", "items", "out", "steady"), kept(mover)]
[True, ('inside', 'ends', 'tree', 'items', 'out')]
>>> loose = Code("put", put.text.replace("new.up = par\\n", ""))
>>> [keeps(loose, "tree"), len(all_items(least_case(loose, "tree")[0])), len(all_items(least_case(mover, "steady")[0]))]
[False, 1, 3]

>>> from nextcode.costs import most
>>> [most(finder, 7), most(put, 10 ** 60), most(goer, 5), most(put, 0)]
[7, 1000000000000000000000000000000000000000000000000000000000001, 0, 0]

>>> from nextcode.walks import together
>>> [together(taker, goer), together(mover, goer), together(mover, goer, finder)]
[True, False, True]
"""

import doctest
import sys
import unittest


class Examples(unittest.TestCase):
    def test_examples(self):
        told = doctest.testmod(sys.modules[__name__])
        self.assertEqual((told.failed, told.attempted > 10), (0, True))
