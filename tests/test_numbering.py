"""[17]: the row of a class by its number, and the number of a row."""

import time
import unittest

from knotlessrows.classes import is_of
from knotlessrows.counts import counts
from knotlessrows.errors import NoNumber, NoRow, TooMany
from knotlessrows.numbering import number_of, row_at
from knotlessrows.rows import is_row
from tests.asking import Asking
from tests.refusing import Refusing
from tests.slow import closed, of_class, rows_of
from tests.some_shelves import FOUR, OTHER_FOUR, SHELVES, SMALL_SHELVES, TO_FIVE, TWENTY
from tests.things import BIG, FORTY, MIXED_FORTY, ZIGZAG_FORTY, no_wholes

BOTH = (FOUR, OTHER_FOUR)
NO_SIZES = (0, -1, -2, -40, 41, 42, 60, 61, 1000, 10 ** 9, BIG, -BIG)


def some_numbers(many):
    """Numbers below many: the first and the last ones, and some all over."""
    spread = [many * at // 11 for at in range(11)] + [0, 1, 2, 3, many - 1, many - 2, many - 3]
    return sorted({number for number in spread if 0 <= number < many})


class RowAtTest(Refusing, unittest.TestCase):

    def test_rows_gone_through_one_by_one(self):
        for shelf in SHELVES:
            for n in range(1, 7):
                due = [row for row in rows_of(n) if of_class(shelf, row)]
                told = [row_at(shelf, n, number) for number in range(counts(shelf, n)[-1])]
                self.assertEqual(sorted(told), due, (shelf, n))
                self.assertEqual([number_of(shelf, row) for row in told], list(range(len(told))), (shelf, n))

    def test_rows_of_seven(self):
        for shelf in (TWENTY, closed([(2, 4, 7, 5, 3, 1, 6)])):
            due = [row for row in rows_of(7) if of_class(shelf, row)]
            self.assertEqual(sorted(row_at(shelf, 7, number) for number in range(counts(shelf, 7)[-1])), due)

    def test_kinds(self):
        for shelf in SHELVES:
            for n in (1, 5, 40):
                told = row_at(shelf, n, 0)
                self.assertIs(is_row(told), True)
                self.assertEqual(len(told), n)
                self.assertIs(type(number_of(shelf, told)), int)

    def test_there_and_back_to_forty(self):
        for shelf in SHELVES:
            every = counts(shelf, 40)
            for n in (1, 2, 3, 4, 5, 6, 7, 8, 9, 13, 20, 30, 39, 40):
                for number in some_numbers(every[n - 1]):
                    row = row_at(shelf, n, number)
                    self.assertEqual(len(row), n)
                    self.assertIs(is_of(shelf, row), True)
                    self.assertEqual(number_of(shelf, row), number, (shelf, n))

    def test_rows_of_one_number(self):
        for shelf in SHELVES:
            self.assertEqual(row_at(shelf, 1, 0), (1,))
            self.assertEqual(number_of(shelf, (1,)), 0)

    def test_rows_of_forty(self):
        turns = tuple(number for pair in zip(FORTY[:20], FORTY[:19:-1]) for number in pair)
        blown = tuple(10 * (number - 1) + behind for number in FOUR for behind in range(1, 11))
        for shelf in SHELVES:
            every = counts(shelf, 40)[-1]
            numbers = []
            for row in (FORTY, FORTY[::-1], turns, turns[::-1], FORTY[20:] + FORTY[:20]):
                number = number_of(shelf, row)
                self.assertTrue(0 <= number < every)
                self.assertEqual(row_at(shelf, 40, number), row)
                numbers.append(number)
            self.assertEqual(len(set(numbers)), 5)
            if FOUR in shelf:
                self.assertEqual(row_at(shelf, 40, number_of(shelf, blown)), blown)

    def test_numbers_at_the_bounds(self):
        for shelf in SHELVES:
            every = counts(shelf, 40)
            for n in (1, 2, 3, 4, 7, 8, 39, 40):
                many = every[n - 1]
                self.assertEqual(number_of(shelf, row_at(shelf, n, 0)), 0)
                self.assertEqual(number_of(shelf, row_at(shelf, n, many - 1)), many - 1)
                for number in (-1, -2, -many, many, many + 1, -BIG):
                    self.assert_refused(NoNumber, row_at, shelf, n, number)
            # Of four numbers and fewer BIG is no number, of forty it may be one.
            for n in (1, 2, 3, 4):
                self.assert_refused(NoNumber, row_at, shelf, n, BIG)

    def test_no_numbers_of_any_kind(self):
        for shelf in ((), BOTH, TWENTY):
            for n in (1, 2, 5, 40):
                for thing in no_wholes():
                    self.assert_refused(NoNumber, row_at, shelf, n, thing)

    def test_other_sizes(self):
        for shelf in SMALL_SHELVES:
            for n in NO_SIZES:
                self.assert_refused(TooMany, row_at, shelf, n, 0)

    def test_both_wrong_at_once(self):
        for n in NO_SIZES:
            for thing in no_wholes() + [-1, BIG, -BIG]:
                self.assert_refused(TooMany, row_at, BOTH, n, thing)

    def test_forty_is_answered_quickly(self):
        begun = time.monotonic()
        many = counts(TWENTY, 40)[-1]
        for number in some_numbers(many):
            number_of(TWENTY, row_at(TWENTY, 40, number))
        self.assertLess(time.monotonic() - begun, 10)


class NumberOfTest(Refusing, unittest.TestCase):

    def test_barred_rows(self):
        for shelf in SHELVES:
            for n in range(1, 7):
                for row in rows_of(n):
                    if not of_class(shelf, row):
                        self.assert_refused(NoRow, number_of, shelf, row)

    def test_barred_rows_of_forty(self):
        for shelf in SHELVES:
            for row in (ZIGZAG_FORTY, ZIGZAG_FORTY[::-1], MIXED_FORTY):
                self.assert_refused(NoRow, number_of, shelf, row)

    def test_a_bar_deep_within(self):
        row = FORTY[:20] + (22, 24, 21, 23) + FORTY[24:]
        self.assert_refused(NoRow, number_of, (), row)
        self.assert_refused(NoRow, number_of, (OTHER_FOUR,), row)
        self.assertEqual(row_at((FOUR,), 40, number_of((FOUR,), row)), row)


class AskedAgainTest(Asking, unittest.TestCase):

    QUESTIONS = [
        (row_at, (), 1, 0), (row_at, (), 6, 100), (row_at, (FOUR,), 6, 100), (row_at, BOTH, 40, 10 ** 20),
        (row_at, TWENTY, 40, 10 ** 20), (row_at, TO_FIVE, 5, 119), (number_of, (), (1,)), (number_of, (), FORTY),
        (number_of, BOTH, FORTY), (number_of, (FOUR,), FOUR), (number_of, BOTH, FOUR), (number_of, TWENTY, FOUR),
    ]
    REFUSED = [
        (TooMany, row_at, BOTH, 41, 0), (TooMany, row_at, BOTH, 0, None), (NoNumber, row_at, BOTH, 4, 24),
        (NoNumber, row_at, BOTH, 4, True), (NoNumber, row_at, BOTH, 4, [0]), (NoRow, number_of, (), FOUR),
        (NoRow, number_of, TWENTY, ZIGZAG_FORTY),
    ]


if __name__ == "__main__":
    unittest.main()
