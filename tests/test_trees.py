import itertools
import unittest

from nextcode.errors import BadTree
from nextcode.trees import all_items, height, is_told, links, of_items, root_of
from tests.helper import Agreeing, Sour, odd_values

T = ((None, (1, 11), None), (4, 12), (None, (6, 13), (None, (9, 14), None)))
BIG = 10 ** 60


def leaf(key, mark):
    return (None, (key, mark), None)


def chain(many, side):
    """A tree whose every node but the lowest one has one child, on the side 0 (left) or 2 (right)."""
    tree = None
    for number in range(many):
        key = number if side == 0 else -number
        tree = (tree, (key, number), None) if side == 0 else (None, (key, number), tree)
    return tree


def plain_links(tree):
    """The links of a small told tree, found in the plainest way."""
    numbers = {item: number for number, item in enumerate(all_items(tree))}
    found = {}

    def go(part, up):
        if part is None:
            return None
        number = numbers[part[1]]
        found[number] = (go(part[0], number), go(part[2], number), up)
        return number

    go(tree, None)
    return found


def shapes(keys):
    """All told trees with these keys, which are the marks, too."""
    if not keys:
        return [None]
    found = []
    for at, key in enumerate(keys):
        for left, right in itertools.product(shapes(keys[:at]), shapes(keys[at + 1:])):
            found.append((left, (key, key), right))
    return found


class IsTold(unittest.TestCase):
    def test_told_trees(self):
        for tree in (None, T, leaf(0, 0), leaf(BIG, -BIG), leaf(-BIG, BIG), (leaf(1, 2), (2, 1), None),
                     (leaf(-BIG, 1), (BIG, 2), leaf(BIG + 1, 3)), chain(100, 0), chain(200, 2)):
            self.assertIs(is_told(tree), True)

    def test_every_small_shape(self):
        for many in range(6):
            for tree in shapes(list(range(many))):
                self.assertIs(is_told(tree), True)

    def test_other_values(self):
        for value in odd_values() + ["", "None", True, False, (None,), (None, None), (None, None, None)]:
            self.assertIs(is_told(value), False)
            for part in ((value, (1, 1), None), (None, (1, 1), value), (None, value, None), (leaf(0, 7), (1, 1), value),
                         (leaf(0, 7), value, None)):
                self.assertIs(is_told(part), False)
            for part in ((None, (1, value), None), (None, (value, 1), None), (leaf(-5, -5), (3, value), None)):
                self.assertIs(is_told(part), type(value) is int)

    def test_true_and_false_are_no_integers(self):
        for item in ((True, 1), (1, True), (False, 1), (0, False)):
            self.assertIs(is_told((None, item, None)), False)

    def test_a_list_is_no_tuple(self):
        self.assertIs(is_told([None, (1, 1), None]), False)
        self.assertIs(is_told((None, [1, 1], None)), False)
        self.assertIs(is_told(([None, (1, 1), None], (2, 2), None)), False)
        self.assertIs(is_told((None, (2, 2), [None, (3, 3), None])), False)

    def test_too_short_and_too_long(self):
        for value in ((None, (1, 1)), (None, (1, 1), None, None), (None, (1,), None), (None, (1, 1, 1), None), ((),),
                      (1, 1), (None, (), None), ((), (1, 1), None)):
            self.assertIs(is_told(value), False)

    def test_keys_that_do_not_ascend(self):
        for value in ((leaf(2, 2), (1, 1), None), (None, (1, 1), leaf(0, 2)), (leaf(1, 2), (1, 1), None),
                      (None, (1, 1), leaf(1, 2)), ((None, (1, 1), leaf(5, 2)), (4, 3), None),
                      (None, (4, 3), (leaf(3, 1), (6, 2), None)), ((None, (1, 1), leaf(4, 2)), (4, 3), None),
                      (None, (4, 3), (leaf(4, 1), (6, 2), None))):
            self.assertIs(is_told(value), False)

    def test_marks_that_stand_twice(self):
        for value in ((leaf(1, 1), (2, 1), None), (None, (2, 1), leaf(3, 1)), (leaf(1, 7), (2, 1), leaf(3, 7)),
                      (leaf(1, BIG), (2, 1), leaf(3, BIG))):
            self.assertIs(is_told(value), False)

    def test_a_key_may_equal_a_mark_and_marks_need_not_ascend(self):
        self.assertIs(is_told((leaf(1, 2), (2, 1), leaf(3, -4))), True)

    def test_very_deep_values(self):
        for side in (0, 2):
            tree = chain(100000, side)
            self.assertIs(is_told(tree), True)
            self.assertIs(is_told((tree, (0, -1), None)), False)
            self.assertEqual([height(tree), len(all_items(tree)), root_of(tree)],
                             [100000, 100000, 99999 if side == 0 else 0])
        deep = ()
        for _ in range(100000):
            deep = (deep,)
        for value in (deep, (deep, (1, 1), None), (None, deep, None), (None, (deep, 1), None)):
            self.assertIs(is_told(value), False)

    def test_parts_that_stand_many_times(self):
        part = None
        for number in range(300):
            part = (part, (number, number), part)
        self.assertIs(is_told(part), False)
        part = None
        for number in range(300):
            part = (part, (0, 0), part)
        self.assertIs(is_told(part), False)
        part = "x"
        for number in range(300):
            part = (None, (number, number), (part, (-number, -number - 1), part))
        self.assertIs(is_told(part), False)

    def test_parts_with_code_of_their_own(self):
        class Odd(tuple):
            def __len__(self):
                raise RuntimeError("asked")

            __iter__ = __getitem__ = __eq__ = __len__
            __hash__ = None

        class Whole(int):
            def __lt__(self, other):
                raise RuntimeError("asked")

            __gt__ = __le__ = __ge__ = __eq__ = __lt__
            __hash__ = None

        for value in (Odd((None, (1, 1), None)), (None, Odd((1, 1)), None), (None, (Whole(1), 1), None),
                      (leaf(1, 1), (Whole(2), 2), None), (leaf(1, 1), (2, Whole(1)), None), Sour(), Agreeing(),
                      (Sour(), (1, 1), None), (None, Agreeing(), None)):
            self.assertIs(is_told(value), False)


class Questions(unittest.TestCase):
    def test_the_empty_tree(self):
        self.assertEqual([all_items(None), height(None), root_of(None), links(None)], [(), 0, None, {}])

    def test_one_node(self):
        tree = leaf(BIG, 5)
        self.assertEqual([all_items(tree), height(tree), root_of(tree), links(tree)],
                         [((BIG, 5),), 1, 0, {0: (None, None, None)}])

    def test_the_sample(self):
        self.assertEqual(all_items(T), ((1, 11), (4, 12), (6, 13), (9, 14)))
        self.assertEqual([height(T), root_of(T)], [3, 1])
        self.assertEqual(links(T), {0: (None, None, 1), 1: (0, 2, None), 2: (None, 3, 1), 3: (None, None, 2)})

    def test_every_small_shape(self):
        for many in range(1, 7):
            for tree in shapes(list(range(many))):
                self.assertEqual(all_items(tree), tuple((key, key) for key in range(many)))
                self.assertEqual(root_of(tree), tree[1][0])
                self.assertEqual(links(tree), plain_links(tree))
                self.assertEqual(height(tree), 1 + max(height(tree[0]), height(tree[2])))

    def test_chains(self):
        for many in (1, 2, 100, 200):
            self.assertEqual([height(chain(many, 0)), height(chain(many, 2))], [many, many])
        self.assertEqual(links(chain(3, 0)), {0: (None, None, 1), 1: (0, None, 2), 2: (1, None, None)})
        self.assertEqual(links(chain(3, 2)), {0: (None, 1, None), 1: (None, 2, 0), 2: (None, None, 1)})

    def test_links_are_new_each_time(self):
        first = links(T)
        first.clear()
        self.assertEqual(len(links(T)), 4)

    def test_kinds_of_values(self):
        self.assertIs(type(all_items(T)), tuple)
        self.assertEqual({type(beside) for beside in links(T).values()}, {tuple})

    def test_bad_tree_keeps_the_value(self):
        wrong = odd_values() + ["x", True, False, [None, (1, 1), None], (leaf(2, 2), (1, 1), None), (T, (3, 1), None)]
        for ask in (all_items, height, root_of, links):
            for value in wrong:
                with self.assertRaises(BadTree) as caught:
                    ask(value)
                self.assertIs(caught.exception.tree, value)

    def test_by_name(self):
        self.assertEqual([is_told(value=T), height(tree=T), root_of(tree=T)], [True, 3, 1])
        self.assertEqual([all_items(tree=None), links(tree=None), of_items(items=[])], [(), {}, None])


class OfItems(unittest.TestCase):
    def test_none_at_all(self):
        self.assertIsNone(of_items([]))
        self.assertIsNone(of_items(()))

    def test_least_height_in_any_order(self):
        for many in range(1, 66):
            items = [(key * 7 - 3, -key) for key in range(many)]
            for mixed in (items, items[::-1], items[1::2] + items[::2], tuple(items)):
                tree = of_items(mixed)
                self.assertTrue(is_told(tree))
                self.assertEqual(all_items(tree), tuple(items))
                self.assertEqual(height(tree), many.bit_length())

    def test_many_items_and_big_keys(self):
        items = [(BIG * key, BIG - key) for key in range(2000, -2000, -1)]
        tree = of_items(items)
        self.assertEqual([height(tree), all_items(tree)], [12, tuple(items[::-1])])

    def test_the_list_stays_as_it_is(self):
        items = [(5, 1), (3, 2), (8, 3)]
        of_items(items)
        self.assertEqual(items, [(5, 1), (3, 2), (8, 3)])

    def test_other_values(self):
        no_lists = [value for value in odd_values() if not (type(value) in (list, tuple) and len(value) == 0)]
        for value in no_lists + [
                None, "", True, {(1, 1)}, {(1, 1): 2}, iter([(1, 1)]), [None], [1, 2], (1, 2), [[1, 2]], [(1,)],
                [(1, 2, 3)], [(1, True)], [(False, 1)], [(1.0, 2)], [("1", 2)], [(1, None)], [(1, 1), (1, 2)],
                [(1, 1), (2, 1)], [(1, 1), (1, 1)], [(1, 1), Sour()], [(1, Agreeing())], [(3, 1), (2, 2), (3, 4)],
                [(BIG, 1), (BIG, 2)], [(1, 1), (2, 2), None], T]:
            with self.assertRaises(BadTree) as caught:
                of_items(value)
            self.assertIs(caught.exception.tree, value)
