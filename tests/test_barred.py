"""[13], [14]: the least barred rows, and one that stands in a barred row."""

import functools
import unittest

from knotlessrows.barred import first_barred, least_barred
from knotlessrows.classes import is_of
from knotlessrows.errors import NoShelf
from knotlessrows.rows import aside, backward, shape_at, taken_out
from knotlessrows.shelves import shelf_of
from knotlessrows.standing import stands
from knotlessrows.stretches import is_unbroken
from tests.asking import Asking
from tests.slow import closed, in_order_of_sizes, of_class, rows_of, rows_to, shape_of, unbroken, unbroken_within
from tests.some_shelves import FIVES, FOUR, LONGER_SHELVES, OTHER_FOUR, SHELVES, SMALL_SHELVES, TO_FIVE, TWENTY
from tests.things import FORTY, MIXED_FORTY, ZIGZAG_FORTY

BOTH = (FOUR, OTHER_FOUR)
EIGHT = (2, 4, 6, 8, 1, 3, 5, 7)


def zigzags(many):
    row = tuple(range(2, 2 * many + 1, 2)) + tuple(range(1, 2 * many, 2))
    return [row, backward(row), aside(row), backward(aside(row))]


@functools.lru_cache(maxsize=None)
def unbroken_to(most):
    return tuple(row for size in range(4, most + 1) for row in rows_of(size) if unbroken(row))


def least_among(shelf, rows):
    """Those of the rows that are barred while no row is with one number taken out."""
    return [row for row in rows if not of_class(shelf, row)
            and all(of_class(shelf, shape_of(row[:place] + row[place + 1:])) for place in range(len(row)))]


class LeastBarredTest(unittest.TestCase):

    def test_of_the_empty_shelf(self):
        self.assertEqual(least_barred(()), [FOUR, OTHER_FOUR])
        self.assertIs(type(least_barred(())), list)

    def test_examples(self):
        self.assertEqual(least_barred((FOUR,)), [OTHER_FOUR, (2, 5, 3, 1, 4), (2, 4, 6, 1, 3, 5), (3, 6, 2, 5, 1, 4)])
        self.assertEqual(least_barred(BOTH), FIVES + [(2, 4, 6, 1, 3, 5), (3, 6, 2, 5, 1, 4), (4, 1, 5, 2, 6, 3),
                                                      (5, 3, 1, 6, 4, 2)])

    def test_all_rows_gone_through(self):
        # Least barred ones have at most two numbers more than the longest on the shelf.
        for shelf in SMALL_SHELVES:
            due = in_order_of_sizes(least_among(shelf, rows_to(7)))
            self.assertEqual(least_barred(shelf), due, shelf)

    def test_longer_shelves(self):
        for shelf in LONGER_SHELVES:
            due = in_order_of_sizes(least_among(shelf, unbroken_to(8)))
            self.assertEqual(least_barred(shelf), due, shelf)

    def test_many_small_shelves(self):
        six = [row for row in rows_of(6) if unbroken(row)]
        for rows in [[row] for row in FIVES + six] + [[FIVES[0], row] for row in six[::5]]:
            shelf = closed(rows)
            due = in_order_of_sizes(least_among(shelf, unbroken_to(8)))
            self.assertEqual(least_barred(shelf), due, shelf)

    def test_each_is_unbroken_and_its_own_shorter_ones_are_of_the_class(self):
        for shelf in SHELVES:
            told = least_barred(shelf)
            self.assertEqual(told, in_order_of_sizes(told))
            for row in told:
                self.assertIs(is_unbroken(row), True)
                self.assertIs(is_of(shelf, row), False)
                for place in range(len(row)):
                    self.assertIs(is_of(shelf, taken_out(row, place)), True)

    def test_zigzags(self):
        self.assertTrue(all(row in least_barred(()) for row in zigzags(2)))
        self.assertTrue(all(row in least_barred(BOTH) for row in zigzags(3)))
        self.assertTrue(all(row not in least_barred((FOUR,)) for row in zigzags(4)))
        for row in zigzags(3):
            for shelf in (closed([row]), closed([row, *FIVES])):
                longer = [other for other in zigzags(4) if row in unbroken_within(other)]
                self.assertEqual(len(longer), 1)
                self.assertIn(longer[0], least_barred(shelf))
                self.assertNotIn(row, least_barred(shelf))

    def test_a_row_is_of_the_class_just_where_none_stands_in_it(self):
        for shelf in SHELVES:
            told = least_barred(shelf)
            for row in rows_to(6):
                free = all(stands(barred, row) is None for barred in told)
                self.assertIs(is_of(shelf, row), free, (shelf, row))

    def test_rows_of_seven(self):
        for shelf in [(), BOTH, LONGER_SHELVES[0], TWENTY]:
            told = least_barred(shelf)
            for row in list(rows_of(7))[::7]:
                self.assertIs(is_of(shelf, row), all(stands(barred, row) is None for barred in told), (shelf, row))


class FirstBarredTest(unittest.TestCase):

    def assert_first(self, shelf, row, due):
        told = first_barred(shelf, row)
        if due is None:
            self.assertIsNone(told, (shelf, row))
            return
        self.assertIs(type(told), tuple)
        barred, places = told
        self.assertIn(barred, due, (shelf, row))
        self.assertIs(type(places), tuple)
        self.assertEqual(shape_at(row, places), barred)

    def test_examples(self):
        self.assertIsNone(first_barred((), (1,)))
        self.assertIsNone(first_barred((FOUR,), FOUR))
        self.assertEqual(first_barred((), FOUR), (FOUR, (0, 1, 2, 3)))
        self.assertEqual(first_barred((), (1, 3, 5, 2, 4)), (FOUR, (1, 2, 3, 4)))
        self.assertEqual(first_barred((FOUR,), (3, 5, 1, 4, 2)), (OTHER_FOUR, (0, 2, 3, 4)))

    def test_all_small_rows(self):
        for shelf in SHELVES:
            least = least_barred(shelf)
            for row in rows_to(6):
                self.assert_first(shelf, row, None if of_class(shelf, row) else least)

    def test_least_barred_rows_themselves(self):
        for shelf in SHELVES:
            for row in least_barred(shelf):
                self.assertEqual(first_barred(shelf, row), (row, tuple(range(len(row)))))

    def test_rows_of_forty(self):
        for shelf in SHELVES:
            least = least_barred(shelf)
            for row in [(1,), FORTY, FORTY[::-1], FORTY[20:] + FORTY[:20]]:
                self.assert_first(shelf, row, None)
            for row in [ZIGZAG_FORTY, backward(ZIGZAG_FORTY), aside(ZIGZAG_FORTY), backward(aside(ZIGZAG_FORTY)),
                        MIXED_FORTY, MIXED_FORTY[::-1], taken_out(MIXED_FORTY, 11)]:
                self.assert_first(shelf, row, least)

    def test_a_barred_row_far_within(self):
        for shelf in SHELVES:
            least = least_barred(shelf)
            for barred in least[:3] + least[-3:]:
                middle = tuple(number + 15 for number in barred)
                row = FORTY[:15] + middle + FORTY[15 + len(barred):]
                self.assertEqual(first_barred(shelf, row), (barred, tuple(range(15, 15 + len(barred)))))


class AskedAgainTest(Asking, unittest.TestCase):

    QUESTIONS = [
        (least_barred, ()), (least_barred, (FOUR,)), (least_barred, BOTH), (least_barred, TO_FIVE),
        (least_barred, LONGER_SHELVES[0]), (first_barred, (), FOUR), (first_barred, (FOUR,), FOUR),
        (first_barred, (FOUR,), (3, 5, 1, 4, 2)),
    ]
    REFUSED = [(NoShelf, shelf_of, [EIGHT])]


if __name__ == "__main__":
    unittest.main()
