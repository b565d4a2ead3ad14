"""[18]: where a row of a class can grow, and all rows of a class."""

import unittest

from knotlessrows.counts import counts
from knotlessrows.errors import NoRow, TooMany
from knotlessrows.growing import all_rows, heads, openings
from knotlessrows.numbering import row_at
from knotlessrows.rows import put_in, taken_out
from tests.asking import Asking
from tests.refusing import Refusing
from tests.slow import of_class, rows_of, rows_to
from tests.some_shelves import FIVES, FOUR, LONGER_SHELVES, OTHER_FOUR, SHELVES, SMALL_SHELVES, TO_FIVE, TWENTY
from tests.things import BIG, ZIGZAG_FORTY

BOTH = (FOUR, OTHER_FOUR)
NO_SIZES = (0, -1, -7, 8, 9, 40, 41, 10 ** 9, BIG, -BIG)
# The slow answers take each number out of a row in turn: so of long rows but a few are held against them.
NINE = (3, 1, 2, 9, 8, 4, 6, 5, 7)
TWELVE = (2, 1, 5, 4, 3, 12, 6, 7, 11, 9, 10, 8)


def with_number(row, place, number):
    """The row with a number put in, one by one."""
    moved = [other if other < number else other + 1 for other in row]
    moved.insert(place, number)
    return tuple(moved)


def slow_openings(shelf, row):
    many = len(row) + 1
    return [(place, number) for place in range(many) for number in range(1, many + 1)
            if of_class(shelf, with_number(row, place, number))]


def slow_heads(shelf, row):
    return [place for place in range(len(row) + 1) if of_class(shelf, with_number(row, place, len(row) + 1))]


class OpeningsTest(Refusing, unittest.TestCase):

    def test_examples(self):
        self.assertEqual(openings((), (1,)), [(0, 1), (0, 2), (1, 1), (1, 2)])
        # (1, 4) leads to the row (2, 4, 1, 3), and (3, 2) to (3, 1, 4, 2).
        pairs = [(place, number) for place in range(4) for number in range(1, 5)]
        self.assertEqual(openings((), (2, 1, 3)), [pair for pair in pairs if pair not in ((1, 4), (3, 2))])
        self.assertEqual(openings((FOUR,), (2, 1, 3)), [pair for pair in pairs if pair != (3, 2)])
        self.assertEqual(openings(BOTH, (2, 1, 3)), pairs)

    def test_all_places_and_numbers_tried(self):
        for shelf in SHELVES:
            for row in rows_to(4):
                if of_class(shelf, row):
                    told = openings(shelf, row)
                    self.assertIs(type(told), list)
                    self.assertEqual(told, slow_openings(shelf, row), (shelf, row))

    def test_rows_of_five_and_six(self):
        for shelf in SHELVES:
            every = counts(shelf, 6)
            for n in (5, 6):
                for number in range(0, every[n - 1], every[n - 1] // 7):
                    row = row_at(shelf, n, number)
                    self.assertEqual(openings(shelf, row), slow_openings(shelf, row), (shelf, row))

    def test_rows_of_nine(self):
        for shelf in [(), (FOUR,), TO_FIVE, TWENTY, LONGER_SHELVES[-1]]:
            self.assertEqual(openings(shelf, NINE), slow_openings(shelf, NINE))
            self.assertTrue(openings(shelf, NINE))
        inner = (3, 4, 8, 9, 7, 1, 2, 6, 5)
        self.assertEqual(openings((FOUR,), inner), slow_openings((FOUR,), inner))

    def test_what_comes_is_of_the_class(self):
        for shelf in SHELVES:
            row = row_at(shelf, 9, counts(shelf, 9)[-1] * 5 // 7)
            told = openings(shelf, row)
            self.assertEqual(told, sorted(set(told)))
            for place, number in told:
                self.assertTrue(of_class(shelf, put_in(row, place, number)))

    def test_barred_rows(self):
        for shelf in SMALL_SHELVES:
            for row in rows_to(5):
                if not of_class(shelf, row):
                    self.assert_refused(NoRow, openings, shelf, row)
        self.assert_refused(NoRow, openings, TWENTY, (2, 4, 6, 8, 1, 3, 5, 7))
        self.assert_refused(NoRow, openings, (), (1, 3, 5, 2, 4, 6, 7, 8, 9))


class HeadsTest(Refusing, unittest.TestCase):

    def test_examples(self):
        self.assertEqual(heads((), (1,)), [0, 1])
        self.assertEqual(heads((), (2, 1, 3)), [0, 2, 3])
        self.assertEqual(heads((FOUR,), (2, 1, 3)), [0, 1, 2, 3])

    def test_all_places_tried(self):
        for shelf in SHELVES:
            for row in rows_to(5):
                if of_class(shelf, row):
                    told = heads(shelf, row)
                    self.assertIs(type(told), list)
                    self.assertEqual(told, slow_heads(shelf, row), (shelf, row))

    def test_they_are_the_openings_of_the_greatest_number(self):
        for shelf in SHELVES:
            for n in (6, 7, 8, 9):
                row = row_at(shelf, n, counts(shelf, n)[-1] * 3 // 4)
                due = [place for place, number in openings(shelf, row) if number == n + 1]
                self.assertEqual(heads(shelf, row), due)

    def test_rows_of_twelve(self):
        for shelf in [(), BOTH, LONGER_SHELVES[0]]:
            for row in (TWELVE, (4, 5, 6, 10, 11, 12, 1, 2, 3, 7, 8, 9)):
                if of_class(shelf, row):
                    self.assertEqual(heads(shelf, row), slow_heads(shelf, row))
        for shelf in SHELVES:
            row = row_at(shelf, 12, counts(shelf, 12)[-1] - 1)
            self.assertEqual(heads(shelf, row), sorted(set(heads(shelf, row))))
            # Beside the greatest number a greater one can always stand.
            beside = row.index(12)
            self.assertTrue({beside, beside + 1} <= set(heads(shelf, row)))

    def test_each_row_comes_just_once(self):
        for shelf in SHELVES:
            for n in range(1, 6):
                rows = [row for row in rows_of(n) if of_class(shelf, row)]
                longer = [put_in(row, place, n + 1) for row in rows for place in heads(shelf, row)]
                self.assertEqual(sorted(longer), [row for row in rows_of(n + 1) if of_class(shelf, row)], (shelf, n))
                self.assertTrue(all(taken_out(row, row.index(n + 1)) in rows for row in longer))

    def test_barred_rows(self):
        for shelf in SMALL_SHELVES:
            for row in rows_to(5):
                if not of_class(shelf, row):
                    self.assert_refused(NoRow, heads, shelf, row)
        self.assert_refused(NoRow, heads, TWENTY, (2, 4, 6, 8, 10, 12, 1, 3, 5, 7, 9, 11))
        self.assert_refused(NoRow, heads, TWENTY, ZIGZAG_FORTY)


class AllRowsTest(Refusing, unittest.TestCase):

    def test_examples(self):
        self.assertEqual(all_rows((), 1), [(1,)])
        self.assertEqual(all_rows(BOTH, 2), [(1, 2), (2, 1)])
        self.assertEqual(all_rows(BOTH, 4), list(rows_of(4)))
        self.assertEqual(all_rows((FOUR,), 4), [row for row in rows_of(4) if row != OTHER_FOUR])

    def test_rows_gone_through_one_by_one(self):
        for shelf in SHELVES:
            for n in range(1, 8):
                told = all_rows(shelf, n)
                self.assertIs(type(told), list)
                self.assertEqual(told, [row for row in rows_of(n) if of_class(shelf, row)], (shelf, n))
                self.assertEqual(len(told), counts(shelf, n)[-1])

    def test_they_are_the_rows_by_their_numbers(self):
        for shelf in SHELVES:
            for n in range(1, 7):
                numbered = [row_at(shelf, n, number) for number in range(counts(shelf, n)[-1])]
                self.assertEqual(all_rows(shelf, n), sorted(numbered))

    def test_other_sizes(self):
        for shelf in SMALL_SHELVES:
            for n in NO_SIZES:
                self.assert_refused(TooMany, all_rows, shelf, n)


class AskedAgainTest(Asking, unittest.TestCase):

    QUESTIONS = [
        (openings, (), (1,)), (openings, (), (2, 1, 3)), (openings, (FOUR,), (2, 1, 3)), (openings, TWENTY, NINE),
        (heads, (), (1,)), (heads, (), (2, 1, 3)), (heads, (FOUR,), (2, 1, 3)), (heads, TWENTY, TWELVE),
        (all_rows, (), 1), (all_rows, (), 4), (all_rows, BOTH, 4), (all_rows, TO_FIVE, 5),
    ]
    REFUSED = [
        (NoRow, openings, (), FOUR), (NoRow, heads, (), FOUR), (NoRow, heads, BOTH, FIVES[0]),
        (TooMany, all_rows, (), 8), (TooMany, all_rows, (), 0), (TooMany, all_rows, TWENTY, -BIG),
    ]


if __name__ == "__main__":
    unittest.main()
