"""[10]: all unbroken rows of a size, those that stand in a row, and those that one grows to."""

import unittest

from knotlessrows import errors
from knotlessrows.rows import backward, put_in
from knotlessrows.stretches import is_unbroken
from knotlessrows.trees import row_of
from knotlessrows.unbroken import grown, unbroken_in, unbroken_rows
from tests.asking import Asking
from tests.refusing import Refusing
from tests.slow import rows_of, rows_to, shapes_standing_in, unbroken, unbroken_standing_in
from tests.things import BIG

TEN = tuple(range(1, 11))
FOUR = (2, 4, 1, 3)
UNBROKEN_TEN = (2, 4, 6, 8, 10, 1, 3, 5, 7, 9)
MIXED_TEN = tuple((7 * place) % 11 for place in range(1, 11))
OTHER_TENS = [
    UNBROKEN_TEN, backward(UNBROKEN_TEN), MIXED_TEN, (5, 8, 2, 10, 4, 7, 1, 9, 3, 6), (3, 1, 5, 2, 7, 4, 9, 6, 10, 8),
    (2, 4, 1, 3, 6, 8, 5, 7, 10, 9), (4, 5, 10, 8, 9, 1, 2, 6, 7, 3), (6, 1, 7, 2, 8, 3, 9, 4, 10, 5),
]


class UnbrokenRowsTest(Refusing, unittest.TestCase):

    def test_how_many(self):
        self.assertEqual([len(unbroken_rows(n)) for n in (4, 5, 6, 7)], [2, 6, 46, 338])

    def test_rows_of_four_and_five(self):
        self.assertEqual(unbroken_rows(4), [(2, 4, 1, 3), (3, 1, 4, 2)])
        self.assertEqual(unbroken_rows(5), [(2, 4, 1, 5, 3), (2, 5, 3, 1, 4), (3, 1, 5, 2, 4), (3, 5, 1, 4, 2),
                                            (4, 1, 3, 5, 2), (4, 2, 5, 1, 3)])

    def test_all(self):
        for n in (4, 5, 6, 7):
            told = unbroken_rows(n)
            self.assertIs(type(told), list)
            self.assertEqual(told, sorted(row for row in rows_of(n) if unbroken(row)))
            self.assertTrue(all(type(row) is tuple and is_unbroken(row) for row in told))

    def test_of_other_numbers_it_is_refused(self):
        for n in (3, 8, 2, 1, 0, -1, -4, -7, 9, 10, 40, 41, 100, 10 ** 9, BIG, -BIG):
            self.assert_refused(errors.TooMany, unbroken_rows, n)

    def test_the_refusal_is_of_no_other_class(self):
        for n in (3, 8):
            try:
                unbroken_rows(n)
            except ValueError as caught:
                self.assertIsInstance(caught, errors.RowError)
                for name in ("NoPlaces", "NoShelf", "NoNumber", "NoRow", "NoChain", "NoText", "NoSaying", "NoName",
                             "NoDeed"):
                    self.assertNotIsInstance(caught, getattr(errors, name))
            else:
                self.fail("not refused")


class UnbrokenInTest(unittest.TestCase):

    def test_examples(self):
        self.assertEqual(unbroken_in((1,)), [])
        self.assertEqual(unbroken_in((2, 1, 3)), [])
        self.assertEqual(unbroken_in(TEN), [])
        self.assertEqual(unbroken_in(TEN[::-1]), [])
        self.assertEqual(unbroken_in(FOUR), [FOUR])
        self.assertEqual(unbroken_in((1,) + tuple(number + 1 for number in FOUR)), [FOUR])
        self.assertEqual(unbroken_in((3, 5, 1, 4, 2)), [(2, 4, 1, 3), (3, 1, 4, 2), (3, 5, 1, 4, 2)])
        self.assertEqual(unbroken_in((2, 4, 6, 1, 3, 5)), [(2, 4, 1, 3), (2, 4, 6, 1, 3, 5)])
        self.assertIs(type(unbroken_in((1,))), list)

    def test_all_small_rows(self):
        for row in rows_to(6):
            self.assertEqual(unbroken_in(row), unbroken_standing_in(row), row)
        for row in unbroken_rows(7)[::5]:
            self.assertEqual(unbroken_in(row), unbroken_standing_in(row), row)

    def test_rows_of_ten(self):
        for row in OTHER_TENS:
            told = unbroken_in(row)
            self.assertEqual(told, unbroken_standing_in(row), row)
            self.assertEqual(row in told, unbroken(row))
            self.assertEqual(len(set(told)), len(told))
        self.assertEqual(unbroken_in(UNBROKEN_TEN)[-1], UNBROKEN_TEN)

    def test_a_shape_with_trees_as_its_parts(self):
        one = ("one",)
        inner = ("shape", (3, 1, 4, 2), (one, one, one, one))
        row = row_of(("shape", (2, 5, 3, 1, 4), (one, inner, ("rise", (one, one)), one, one)))
        self.assertEqual(unbroken_in(row), unbroken_standing_in(row))


class GrownTest(unittest.TestCase):

    def test_examples(self):
        self.assertEqual(grown(FOUR), [(2, 4, 1, 5, 3), (2, 5, 3, 1, 4), (3, 1, 5, 2, 4), (3, 5, 1, 4, 2),
                                       (4, 2, 5, 1, 3)])
        self.assertIs(type(grown(FOUR)), list)

    def test_those_of_one_number_more_in_which_it_stands(self):
        for n in (4, 5):
            longer = {row: shapes_standing_in(row) for row in rows_of(n + 1) if unbroken(row)}
            for row in unbroken_rows(n):
                self.assertEqual(grown(row), sorted(other for other in longer if row in longer[other]), row)

    def test_numbers_put_in(self):
        for row in unbroken_rows(6)[::4] + unbroken_rows(7)[::37] + [(2, 4, 6, 1, 3, 5), (2, 4, 1, 6, 3, 7, 5)]:
            size = len(row)
            longer = {put_in(row, place, number) for place in range(size + 1) for number in range(1, size + 2)}
            told = grown(row)
            self.assertEqual(told, sorted(other for other in longer if unbroken(other)))
            self.assertEqual(len(told), len(set(told)))

    def test_told_may_be_handed_in_again(self):
        for row in unbroken_rows(4):
            for longer in grown(row):
                for longest in grown(longer):
                    self.assertIs(is_unbroken(longest), True)
                    self.assertIn(row, unbroken_in(longest))


class AskedAgainTest(Asking, unittest.TestCase):

    QUESTIONS = [
        (unbroken_rows, 4), (unbroken_rows, 5), (unbroken_rows, 7), (unbroken_in, (1,)), (unbroken_in, FOUR),
        (unbroken_in, MIXED_TEN), (unbroken_in, TEN), (grown, FOUR), (grown, (3, 5, 1, 4, 2)),
    ]
    REFUSED = [(errors.TooMany, unbroken_rows, n) for n in (3, 8, 0, -1, BIG)]


if __name__ == "__main__":
    unittest.main()
