"""[5]: where a row stands in another one."""

import itertools
import unittest

from knotlessrows.errors import NoPlaces
from knotlessrows.rows import shape_at
from knotlessrows.standing import stands
from tests.asking import Asking
from tests.slow import rows_of

TWELVE = (5, 10, 2, 7, 12, 1, 8, 4, 11, 3, 9, 6)


def first_of_all(shape, row):
    """The first places, all of them gone through."""
    for places in itertools.combinations(range(len(row)), len(shape)):
        if shape_at(row, places) == shape:
            return places
    return None


class StandsTest(unittest.TestCase):

    def test_examples(self):
        self.assertEqual(stands((1, 3, 2), (3, 5, 1, 4, 2)), (0, 1, 3))
        self.assertEqual(stands((2, 4, 1, 3), (3, 5, 1, 4, 2)), (0, 1, 2, 3))
        self.assertEqual(stands((3, 1, 4, 2), (3, 5, 1, 4, 2)), (0, 2, 3, 4))
        self.assertIsNone(stands((1, 2, 3), (3, 5, 1, 4, 2)))

    def test_a_tuple_of_places_is_told(self):
        self.assertIs(type(stands((2, 1), (1, 3, 2))), tuple)

    def test_first_places_where_there_are_several(self):
        self.assertEqual(stands((1,), (3, 1, 2)), (0,))
        self.assertEqual(stands((1, 2), (4, 1, 2, 3)), (1, 2))
        self.assertEqual(stands((1, 2), (2, 1, 4, 3)), (0, 2))
        self.assertEqual(stands((2, 1), (1, 2, 4, 3)), (2, 3))
        # The first number's first place leads nowhere here.
        self.assertEqual(stands((1, 3, 2), (3, 4, 1, 5, 2)), (2, 3, 4))

    def test_all_small_shapes_in_all_small_rows(self):
        shapes = [shape for size in range(1, 5) for shape in rows_of(size)]
        for row in itertools.chain.from_iterable(rows_of(size) for size in range(1, 7)):
            for shape in shapes:
                self.assertEqual(stands(shape, row), first_of_all(shape, row), (shape, row))

    def test_shapes_in_a_row_of_twelve(self):
        for shape in itertools.chain(rows_of(3), rows_of(4), rows_of(5)):
            self.assertEqual(stands(shape, TWELVE), first_of_all(shape, TWELVE), shape)

    def test_every_shape_of_nine_numbers_that_stands_in_a_row_of_twelve(self):
        first = {}
        for places in itertools.combinations(range(12), 9):
            first.setdefault(shape_at(TWELVE, places), places)
        for shape, places in first.items():
            self.assertEqual(stands(shape, TWELVE), places)

    def test_shapes_of_nine_numbers_in_rows_of_twelve(self):
        rise, fall = tuple(range(1, 10)), tuple(range(9, 0, -1))
        self.assertEqual(stands(rise, tuple(range(1, 13))), tuple(range(9)))
        self.assertEqual(stands(fall, tuple(range(12, 0, -1))), tuple(range(9)))
        self.assertIsNone(stands(rise, tuple(range(12, 0, -1))))
        self.assertEqual(stands(rise, (12, 11, 10) + rise), tuple(range(3, 12)))
        self.assertEqual(stands(rise, (2, 1, 4, 3, 6, 5, 7, 8, 9, 10, 11, 12)), (0, 2, 4, 6, 7, 8, 9, 10, 11))
        self.assertIsNone(stands(rise, (2, 1, 4, 3, 6, 5, 7, 8, 9, 10, 12, 11)))

    def test_a_row_stands_in_itself(self):
        for row in [(1,), (2, 1), (2, 4, 1, 3), tuple(range(9, 0, -1)), (2, 4, 6, 8, 1, 3, 5, 7, 9)]:
            self.assertEqual(stands(row, row), tuple(range(len(row))))

    def test_another_row_of_the_same_size_does_not(self):
        for row in rows_of(4):
            for shape in rows_of(4):
                self.assertEqual(stands(shape, row), (0, 1, 2, 3) if shape == row else None)

    def test_a_shape_longer_than_the_row(self):
        for shape, row in [((1, 2), (1,)), ((2, 1), (1,)), ((1, 2, 3), (1, 2)), (tuple(range(1, 10)), (1, 2, 3)),
                           (tuple(range(1, 10)), tuple(range(1, 9)))]:
            self.assertIsNone(stands(shape, row))

    def test_a_row_of_one(self):
        self.assertEqual(stands((1,), (1,)), (0,))
        self.assertEqual(stands((1,), TWELVE), (0,))

    def test_told_places_may_be_handed_in_again(self):
        for shape in rows_of(4):
            places = stands(shape, TWELVE)
            self.assertEqual(shape_at(TWELVE, places), shape)


class AskedAgainTest(Asking, unittest.TestCase):

    QUESTIONS = [(stands, (1, 3, 2), TWELVE), (stands, (1, 2, 3), (3, 5, 1, 4, 2))]
    REFUSED = [(NoPlaces, shape_at, TWELVE, (12,))]


if __name__ == "__main__":
    unittest.main()
