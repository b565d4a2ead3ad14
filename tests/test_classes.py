"""[12]: whether a row is of a shelf's class, and what tells so."""

import itertools
import unittest

from knotlessrows.classes import is_of, said
from knotlessrows.errors import NoShelf
from knotlessrows.rows import shape_at, taken_out
from knotlessrows.shelves import shelf_of
from knotlessrows.stretches import is_unbroken
from knotlessrows.trees import is_tree, row_of, tree_of
from tests.asking import Asking
from tests.slow import ONE, of_class, rows_of, rows_to, shapes_standing_in, unbroken
from tests.some_shelves import FOUR, OTHER_FOUR, SHELVES, TO_FIVE, TWENTY
from tests.things import FORTY, MIXED_FORTY, ZIGZAG_FORTY

BOTH = (FOUR, OTHER_FOUR)


def shapes_in_shapes(rows, ones):
    """A tree of so many numbers, or a few more, with the rows in turn as its shapes, each within the one ahead."""
    tree, many, at = ONE, 1, 0
    while many < ones:
        row = rows[at % len(rows)]
        parts = [ONE] * len(row)
        parts[at % len(row)] = tree
        tree = ("shape", row, tuple(parts))
        many += len(row) - 1
        at += 1
    return tree


class IsOfTest(unittest.TestCase):

    def test_examples(self):
        self.assertIs(is_of((), (1,)), True)
        self.assertIs(is_of((), (2, 1, 3)), True)
        self.assertIs(is_of((), FOUR), False)
        self.assertIs(is_of((FOUR,), FOUR), True)
        self.assertIs(is_of((FOUR,), OTHER_FOUR), False)
        self.assertIs(is_of(BOTH, (3, 5, 1, 4, 2)), False)
        self.assertIs(is_of(TO_FIVE, (3, 5, 1, 4, 2)), True)
        self.assertIs(is_of((FOUR,), (3, 5, 1, 2, 4)), True)

    def test_all_small_rows(self):
        for shelf in SHELVES:
            for row in rows_to(6):
                self.assertIs(is_of(shelf, row), of_class(shelf, row), (shelf, row))

    def test_rows_of_seven(self):
        rows = list(rows_of(7))[::3]
        for shelf in SHELVES[::3]:
            for row in rows:
                self.assertIs(is_of(shelf, row), of_class(shelf, row), (shelf, row))

    def test_rows_on_the_shelf(self):
        for shelf in SHELVES:
            self.assertTrue(all(is_of(shelf, row) for row in shelf))

    def test_rows_of_one_and_of_forty(self):
        turns = tuple(number for pair in zip(FORTY[:20], FORTY[:19:-1]) for number in pair)
        for shelf in SHELVES:
            for row in [(1,), FORTY, FORTY[::-1], turns, turns[::-1], FORTY[20:][::-1] + FORTY[:20]]:
                self.assertIs(is_of(shelf, row), True)
            for row in [ZIGZAG_FORTY, ZIGZAG_FORTY[::-1], MIXED_FORTY]:
                self.assertIs(is_of(shelf, row), False)

    def test_trees_of_shapes_in_shapes(self):
        for shelf in SHELVES[1:]:
            row = row_of(shapes_in_shapes(shelf[::-1], 34))
            self.assertLessEqual(len(row), 40)
            self.assertIs(is_of(shelf, row), True)
            # Without its last row a shelf is one still.
            self.assertIs(is_of(shelf[:-1], row), False)

    def test_what_stands_in_a_row_of_the_class_is_of_it(self):
        for shelf in SHELVES:
            row = row_of(shapes_in_shapes(shelf, 9)) if shelf else (2, 1, 4, 3, 7, 5, 6)
            self.assertTrue(all(is_of(shelf, other) for other in shapes_standing_in(row)))


class SaidTest(unittest.TestCase):

    def assert_said(self, shelf, row, due):
        told = said(shelf, row)
        self.assertIs(type(told), tuple)
        kind, proof = told
        self.assertEqual(kind, "tree" if due else "bar", (shelf, row))
        self.assertIs(type(proof), tuple)
        if due:
            self.assertEqual(proof, tree_of(row))
        else:
            bar = shape_at(row, proof)
            self.assertIs(is_unbroken(bar), True)
            self.assertNotIn(bar, shelf)

    def test_examples(self):
        self.assertEqual(said((), (1,)), ("tree", ONE))
        self.assertEqual(said((), (2, 1)), ("tree", ("fall", (ONE, ONE))))
        self.assertEqual(said((), FOUR), ("bar", (0, 1, 2, 3)))
        self.assertEqual(said((OTHER_FOUR,), (1, 3, 5, 2, 4, 6)), ("bar", (1, 2, 3, 4)))

    def test_all_small_rows(self):
        for shelf in SHELVES:
            for row in rows_to(6):
                self.assert_said(shelf, row, of_class(shelf, row))

    def test_rows_of_forty(self):
        turns = tuple(number for pair in zip(FORTY[:20], FORTY[:19:-1]) for number in pair)
        for shelf in SHELVES:
            for row in [(1,), FORTY, FORTY[::-1], turns, FORTY[20:] + FORTY[:20]]:
                self.assert_said(shelf, row, True)
            for row in [ZIGZAG_FORTY, ZIGZAG_FORTY[::-1], MIXED_FORTY, taken_out(MIXED_FORTY, 7)]:
                self.assert_said(shelf, row, False)

    def test_a_bar_deep_in_the_tree(self):
        for shelf in SHELVES:
            for bar in [FOUR, OTHER_FOUR, (2, 5, 3, 1, 4), (2, 4, 6, 1, 3, 5), (2, 4, 6, 8, 1, 3, 5, 7)]:
                for outer in [FOUR, (4, 1, 3, 5, 2)]:
                    for at in range(len(outer)):
                        parts = [("rise", (ONE, ONE)), ("fall", (ONE, ONE, ONE)), ONE, ("fall", (ONE, ONE)), ONE]
                        parts[at] = ("rise", (ONE, ("fall", (ONE, ("shape", bar, (ONE,) * len(bar)), ONE)), ONE))
                        tree = ("fall", (("rise", (ONE, ONE)), ("shape", outer, tuple(parts[:len(outer)])), ONE))
                        self.assertIs(is_tree(tree), True)
                        self.assert_said(shelf, row_of(tree), bar in shelf and outer in shelf)

    def test_parts_of_several_numbers(self):
        for shelf in SHELVES[1:]:
            tree = shapes_in_shapes(shelf[::-1], 34)
            self.assertEqual(said(shelf, row_of(tree)), ("tree", tree))
            self.assert_said(shelf[:-1], row_of(tree), False)
            self.assert_said((), row_of(tree), False)

    def test_told_places_may_be_handed_in_again(self):
        for row in itertools.islice((row for row in rows_of(7) if unbroken(row)), 50):
            kind, places = said(BOTH, row)
            self.assertEqual((kind, is_unbroken(shape_at(row, places))), ("bar", True))


class AskedAgainTest(Asking, unittest.TestCase):

    EIGHT = (2, 4, 6, 8, 1, 3, 5, 7)
    QUESTIONS = [
        (is_of, (), FOUR), (is_of, (FOUR,), FOUR), (is_of, TWENTY, EIGHT), (is_of, TWENTY, FORTY), (said, (), FOUR),
        (said, (FOUR,), FOUR), (said, BOTH, (2, 3, 8, 7, 1, 5, 4, 6)), (said, TWENTY, FORTY), (said, (), (1,)),
    ]
    REFUSED = [(NoShelf, shelf_of, [EIGHT])]


if __name__ == "__main__":
    unittest.main()
