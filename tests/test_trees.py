"""[8], [9]: trees, their rows, the trees of rows, and the shapes in trees."""

import itertools
import unittest

from knotlessrows.errors import TooMany
from knotlessrows.rows import backward, upside
from knotlessrows.trees import is_tree, row_of, shapes_in, tree_of
from knotlessrows.unbroken import unbroken_rows
from tests.asking import Asking
from tests.slow import ONE, in_order_of_sizes, row_by_leaves, rows_of, rows_to, trees_with, unbroken
from tests.things import BIG, FORTY, MIXED_FORTY, ZIGZAG_FORTY, any_things, nested

FOUR = (2, 4, 1, 3)
FIVE = (2, 5, 3, 1, 4)
TWO = ("rise", (ONE, ONE))
TOPPLED = ("fall", (ONE, ONE))


def by_turns(ones, first="rise", last=True):
    """A rise in a fall in a rise and so on, the inner one the last part, or the first."""
    heads = {"rise": "fall", "fall": "rise"}
    head = first if ones % 2 == 0 else heads[first]
    tree = ONE
    for _ in range(ones - 1):
        tree = (head, (ONE, tree) if last else (tree, ONE))
        head = heads[head]
    return tree


def shapes_by_turns(many):
    """Shapes of four numbers in one another, so many of them: three ones more each."""
    tree = ONE
    for at in range(many):
        parts = [ONE] * 4
        parts[at % 4] = tree
        tree = ("shape", FOUR if at % 2 else FOUR[::-1], tuple(parts))
    return tree


TREES = [
    ONE, TWO, TOPPLED, ("rise", (ONE,) * 40), ("fall", (ONE,) * 40), ("shape", FOUR, (ONE,) * 4),
    ("shape", FIVE, (TWO, ONE, TOPPLED, ("shape", FOUR, (ONE, TWO, ONE, ONE)), ONE)),
    ("shape", FOUR, (TWO, TWO, TOPPLED, TOPPLED)), ("shape", ZIGZAG_FORTY, (ONE,) * 40),
    ("shape", ZIGZAG_FORTY[::-1], (ONE,) * 40), ("shape", FOUR, (("rise", (ONE,) * 37), ONE, ONE, ONE)),
    ("rise", (("shape", FOUR, (ONE,) * 4), ("shape", FOUR, (ONE,) * 4), TOPPLED, ONE)),
    ("fall", (TWO, ("shape", FIVE, (ONE,) * 5), TWO)), ("rise", (TOPPLED,) * 20), ("fall", (TWO,) * 20),
    by_turns(40), by_turns(40, "fall"), by_turns(40, "rise", False), by_turns(40, "fall", False),
    shapes_by_turns(13), ("fall", (ONE, shapes_by_turns(12), TWO)),
]


class IsTreeTest(unittest.TestCase):

    def test_trees(self):
        for tree in TREES:
            self.assertIs(is_tree(tree), True, tree)

    def test_all_small_trees(self):
        for size in range(1, 7):
            for tree in trees_with(size):
                self.assertIs(is_tree(tree), True, tree)

    def test_one_directly_within_its_like(self):
        for head, other in [("rise", TWO), ("fall", TOPPLED)]:
            for parts in [(other, ONE), (ONE, other), (other, other), (ONE, other, ONE), (ONE, ONE, other)]:
                self.assertIs(is_tree((head, parts)), False)
                self.assertIs(is_tree(("shape", FOUR, (ONE, (head, parts), ONE, ONE))), False)
        for head, other in [("rise", TOPPLED), ("fall", TWO)]:
            self.assertIs(is_tree((head, (other, ONE))), True)
            self.assertIs(is_tree((head, (ONE, other))), True)
            self.assertIs(is_tree((head, (other, other))), True)
            self.assertIs(is_tree((head, (("shape", FOUR, (ONE,) * 4), other))), True)
        self.assertIs(is_tree(("rise", (("shape", FOUR, (TWO,) * 4), ONE))), True)

    def test_too_few_parts(self):
        for head in ("rise", "fall"):
            for thing in [(head,), (head, ()), (head, (ONE,)), (head, ONE), (head, ("one", "one")),
                          (head, (ONE, ONE), ()), (head, (ONE, ONE), (ONE, ONE)), (head, ONE, ONE)]:
                self.assertIs(is_tree(thing), False, thing)

    def test_one(self):
        for thing in [("one", ()), ("one", ONE), ("one", "one"), ("One",), ("one ",), ("on",), ("",), (1,), "one",
                      ["one"], (ONE,), (("one",), ("one",)), ("one", 1), (("one"),) * 2, ("shape",), ("two",)]:
            self.assertIs(is_tree(thing), False, thing)

    def test_shapes_whose_rows_are_broken_or_none(self):
        for row in [(1,), (1, 2), (2, 1), (1, 2, 3), (1, 2, 3, 4), (2, 1, 4, 3), (2, 4, 1, 3, 5), (3, 1, 2, 4), (),
                    (2, 4, 1, 5), (1, 3, 0, 2), (2, 4, True, 3), [2, 4, 1, 3], "2413", None, 4, True, (FOUR,), FORTY]:
            for many in (1, 2, 3, 4, 5, 40):
                self.assertIs(is_tree(("shape", row, (ONE,) * many)), False, (row, many))
        for row in rows_of(5):
            self.assertIs(is_tree(("shape", row, (ONE,) * 5)), unbroken(row), row)

    def test_shapes_with_more_or_fewer_parts(self):
        for row in (FOUR, FIVE, (2, 4, 6, 1, 3, 5)):
            for many in range(9):
                self.assertIs(is_tree(("shape", row, (ONE,) * many)), many == len(row))
        self.assertIs(is_tree(("shape", ZIGZAG_FORTY, (ONE,) * 39)), False)
        self.assertIs(is_tree(("shape", ZIGZAG_FORTY, (ONE,) * 41)), False)
        for thing in [("shape", FOUR), ("shape", (ONE,) * 4), ("shape", (ONE,) * 4, FOUR),
                      ("shape", FOUR, (ONE,) * 4, ()), ("shape", FOUR, ONE, ONE, ONE, ONE), (FOUR, (ONE,) * 4),
                      ("rise", FOUR, (ONE,) * 4), ("fall", FOUR, (ONE,) * 4), ("one", FOUR, (ONE,) * 4)]:
            self.assertIs(is_tree(thing), False, thing)

    def test_lists_in_the_place_of_tuples(self):
        for thing in [["one"], ["rise", (ONE, ONE)], ("rise", [ONE, ONE]), ("rise", (["one"], ONE)),
                      ("fall", [ONE, ONE]), ("fall", (ONE, ["one"])), ["shape", FOUR, (ONE,) * 4],
                      ("shape", list(FOUR), (ONE,) * 4), ("shape", FOUR, [ONE] * 4),
                      ("shape", FOUR, (ONE, ONE, ONE, ["one"])), ("rise", (TOPPLED, ("fall", [ONE, ONE])))]:
            self.assertIs(is_tree(thing), False, thing)

    def test_heads_that_are_none(self):
        for head in [None, True, False, 0, 1, "", "RISE", "rises", " rise", "ris", (), [], ("rise",), ["rise"],
                     nested(tuple, 80), BIG]:
            for thing in [(head,), (head, (ONE, ONE)), (head, FOUR, (ONE,) * 4)]:
                self.assertIs(is_tree(thing), False, repr(thing)[:100])

    def test_forty_ones_and_more(self):
        for ones in range(2, 50):
            for head in ("rise", "fall"):
                self.assertIs(is_tree((head, (ONE,) * ones)), ones <= 40, ones)
                self.assertIs(is_tree(by_turns(ones, head)), ones <= 40, ones)
                self.assertIs(is_tree(by_turns(ones, head, False)), ones <= 40, ones)
        for ones in range(2, 45):
            tree = ("shape", FOUR, (ONE, ONE, ("rise", (ONE,) * ones), ONE))
            self.assertIs(is_tree(tree), ones + 3 <= 40, ones)
        self.assertIs(is_tree(("rise", (TOPPLED,) * 20 + (ONE,))), False)
        self.assertIs(is_tree(("rise", (ONE, ("fall", (ONE,) * 39)))), True)
        self.assertIs(is_tree(("rise", (ONE, ("fall", (ONE,) * 40)))), False)
        self.assertIs(is_tree(("rise", (("fall", (ONE,) * 40), ONE))), False)
        self.assertIs(is_tree(shapes_by_turns(14)), False)
        self.assertIs(is_tree(("shape", (2, 4, 1, 3), (("shape", ZIGZAG_FORTY, (ONE,) * 40), ONE, ONE, ONE))), False)
        many = tuple(range(2, 43, 2)) + tuple(range(1, 42, 2))
        self.assertIs(is_tree(("shape", many, (ONE,) * 42)), False)

    def test_any_one_of_the_ones_wrong(self):
        for wrong in [None, (), "one", ["one"], ("on",), True, 1, (1,), ("one", "one"), nested(tuple, 5)]:
            for tree in [("rise", (ONE,) * 5), ("shape", FOUR, (ONE,) * 4)]:
                for at in range(len(tree[-1])):
                    parts = tree[-1][:at] + (wrong,) + tree[-1][at + 1:]
                    self.assertIs(is_tree(tree[:-1] + (parts,)), False)
                    self.assertIs(is_tree(("fall", (ONE, tree[:-1] + (parts,)))), False)
        for last in (True, False):
            # The innermost one of a deep tree.
            deep = None
            for at in range(38):
                deep = (("rise", "fall")[at % 2], (ONE, deep) if last else (deep, ONE))
            self.assertIs(is_tree(deep), False)

    def test_deep_and_wide_things(self):
        for kind in (list, tuple):
            self.assertIs(is_tree(nested(kind, 90)), False)
            self.assertIs(is_tree(("rise", (nested(kind, 88), ONE))), False)
            self.assertIs(is_tree(("shape", FOUR, (nested(kind, 88), ONE, ONE, ONE))), False)
            self.assertIs(is_tree(("shape", nested(kind, 89), (ONE,) * 4)), False)
        self.assertIs(is_tree(by_turns(44)), False)
        for thing in [("rise", (ONE,) * 4998), ("fall", (None,) * 4998), ("shape", tuple(range(1, 2000)), (ONE,) * 1999),
                      ("shape", FOUR, (ONE,) * 4000), (ONE,) * 5000, ("one",) * 5000, ("rise", (TOPPLED,) * 900)]:
            self.assertIs(is_tree(thing), False)

    def test_what_shares_its_parts_is_told_quickly(self):
        thing = ONE
        for at in range(44):
            thing = (("rise", "fall")[at % 2], (thing, thing))
        self.assertIs(is_tree(thing), False)

    def test_any_things(self):
        for thing in any_things() + [(), (1,), (2, 1), FOUR, FORTY, (FOUR,)]:
            self.assertIs(is_tree(thing), False, repr(thing)[:100])
            self.assertIs(is_tree(("rise", thing)), False, repr(thing)[:100])
            self.assertIs(is_tree(("rise", (ONE, thing))), False, repr(thing)[:100])
            self.assertIs(is_tree(("shape", thing, (ONE,) * 4)), thing == FOUR, repr(thing)[:100])


class RowOfTest(unittest.TestCase):

    def test_examples(self):
        self.assertEqual(row_of(ONE), (1,))
        self.assertEqual(row_of(TWO), (1, 2))
        self.assertEqual(row_of(TOPPLED), (2, 1))
        self.assertEqual(row_of(("rise", (TOPPLED, ONE, TOPPLED))), (2, 1, 3, 5, 4))
        self.assertEqual(row_of(("fall", (TWO, ONE, TWO))), (4, 5, 3, 1, 2))
        self.assertEqual(row_of(("shape", FOUR, (ONE,) * 4)), FOUR)
        self.assertEqual(row_of(("shape", FOUR, (ONE, ONE, TWO, ONE))), (3, 5, 1, 2, 4))
        self.assertEqual(row_of(("shape", FOUR, (TWO, TOPPLED, ONE, ("rise", (TOPPLED, ONE))))),
                         (2, 3, 8, 7, 1, 5, 4, 6))

    def test_against_the_ways_to_the_ones(self):
        for tree in TREES + [tree for size in range(1, 7) for tree in trees_with(size)]:
            self.assertEqual(row_of(tree), row_by_leaves(tree))

    def test_edges(self):
        self.assertEqual(row_of(("rise", (ONE,) * 40)), FORTY)
        self.assertEqual(row_of(("fall", (ONE,) * 40)), FORTY[::-1])
        self.assertEqual(row_of(("shape", ZIGZAG_FORTY, (ONE,) * 40)), ZIGZAG_FORTY)
        outside_in = [number for pair in zip(FORTY[:20], FORTY[:19:-1]) for number in pair]
        self.assertEqual(row_of(by_turns(40)), tuple(outside_in))
        self.assertEqual(row_of(by_turns(40, "fall")), upside(tuple(outside_in)))
        self.assertEqual(row_of(by_turns(40, "fall", False)), backward(tuple(outside_in)))

    def test_each_tree_has_its_own_row(self):
        for size in range(1, 7):
            told = [row_of(tree) for tree in trees_with(size)]
            self.assertEqual(sorted(told), list(rows_of(size)))


class TreeOfTest(unittest.TestCase):

    def test_examples(self):
        self.assertEqual(tree_of((1,)), ONE)
        self.assertEqual(tree_of((1, 2)), TWO)
        self.assertEqual(tree_of((2, 1)), TOPPLED)
        self.assertEqual(tree_of((2, 1, 3, 5, 4)), ("rise", (TOPPLED, ONE, TOPPLED)))
        self.assertEqual(tree_of(FOUR), ("shape", FOUR, (ONE,) * 4))
        self.assertEqual(tree_of((2, 3, 8, 7, 1, 5, 4, 6)),
                         ("shape", FOUR, (TWO, TOPPLED, ONE, ("rise", (TOPPLED, ONE)))))

    def test_rows_there_and_back(self):
        for row in itertools.chain(rows_to(7), [MIXED_FORTY, ZIGZAG_FORTY, FORTY]):
            tree = tree_of(row)
            self.assertIs(is_tree(tree), True, row)
            self.assertEqual(row_of(tree), row)

    def test_trees_there_and_back(self):
        for tree in TREES + [tree for size in range(1, 7) for tree in trees_with(size)]:
            self.assertEqual(tree_of(row_of(tree)), tree)
            self.assertEqual(tree_of(row_by_leaves(tree)), tree)

    def test_rises_and_falls_of_every_size(self):
        for size in range(2, 41):
            self.assertEqual(tree_of(FORTY[:size]), ("rise", (ONE,) * size))
            self.assertEqual(tree_of(FORTY[:size][::-1]), ("fall", (ONE,) * size))
            self.assertEqual(tree_of(row_by_leaves(by_turns(size))), by_turns(size))

    def test_unbroken_rows(self):
        for row in unbroken_rows(4) + unbroken_rows(5) + unbroken_rows(6) + [ZIGZAG_FORTY, backward(ZIGZAG_FORTY)]:
            self.assertEqual(tree_of(row), ("shape", row, (ONE,) * len(row)))


class ShapesInTest(unittest.TestCase):

    def test_examples(self):
        self.assertEqual(shapes_in(ONE), [])
        self.assertEqual(shapes_in(TWO), [])
        self.assertEqual(shapes_in(by_turns(40)), [])
        self.assertEqual(shapes_in(("shape", FOUR, (ONE,) * 4)), [FOUR])
        self.assertEqual(shapes_in(("shape", FOUR, (("shape", FOUR, (ONE,) * 4), ONE, TWO, ONE))), [FOUR])
        self.assertEqual(shapes_in(shapes_by_turns(13)), [FOUR, FOUR[::-1]])
        self.assertEqual(shapes_in(("shape", ZIGZAG_FORTY, (ONE,) * 40)), [ZIGZAG_FORTY])
        self.assertIs(type(shapes_in(TWO)), list)

    def test_order_of_sizes(self):
        # By tuples alone the one of five numbers would come first.
        six = ("shape", (2, 4, 6, 1, 3, 5), (ONE,) * 6)
        five = ("shape", (2, 5, 3, 1, 4), (ONE, ONE, six, ONE, ONE))
        four = ("shape", (3, 1, 4, 2), (ONE, five, ONE, ("shape", (2, 4, 1, 3), (ONE,) * 4)))
        due = [(2, 4, 1, 3), (3, 1, 4, 2), (2, 5, 3, 1, 4), (2, 4, 6, 1, 3, 5)]
        self.assertEqual(shapes_in(four), due)
        self.assertEqual(shapes_in(("rise", (five, four, ONE, ("fall", (six, four))))), due)

    def test_all_small_trees(self):
        def all_shapes(tree):
            own = [tree[1]] if tree[0] == "shape" else []
            return own + [row for part in tree[1:][-1:] for inner in part for row in all_shapes(inner)]

        for tree in TREES + [tree for size in range(1, 7) for tree in trees_with(size)]:
            self.assertEqual(shapes_in(tree), in_order_of_sizes(all_shapes(tree)))


class AskedAgainTest(Asking, unittest.TestCase):

    MIXED = ("shape", FIVE, (TWO, ONE, TOPPLED, ("shape", FOUR, (ONE, TWO, ONE, ONE)), ONE))
    QUESTIONS = [
        (is_tree, ONE), (is_tree, MIXED), (is_tree, ("rise", [ONE, ["one"]])), (is_tree, [[ONE], [[]]]),
        (row_of, MIXED), (row_of, ONE), (tree_of, (2, 3, 8, 7, 1, 5, 4, 6)), (tree_of, ZIGZAG_FORTY),
        (shapes_in, MIXED), (shapes_in, ONE), (shapes_in, shapes_by_turns(3)),
    ]
    REFUSED = [(TooMany, unbroken_rows, 3)]


if __name__ == "__main__":
    unittest.main()
