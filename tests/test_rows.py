"""[4], [5], [6]: rows, their turns, the shapes at places, numbers put in and taken out."""

import itertools
import unittest

from knotlessrows.errors import NoPlaces, RowError
from knotlessrows.rows import aside, backward, is_row, put_in, shape_at, taken_out, upside
from tests.asking import Asking
from tests.refusing import Refusing
from tests.slow import rows_to, shape_of
from tests.things import BIG, FORTY, MIXED_FORTY, no_tuples, no_wholes, tuples_of_others

MIXED_39 = tuple((7 * place) % 40 for place in range(1, 40))


class IsRowTest(unittest.TestCase):

    def test_rows(self):
        for row in itertools.chain(rows_to(6), [FORTY, FORTY[::-1], MIXED_FORTY, MIXED_39]):
            self.assertIs(is_row(row), True, row)

    def test_sizes(self):
        for size in range(1, 41):
            self.assertIs(is_row(tuple(range(size, 0, -1))), True, size)
        for size in (0, 41, 42, 100, 5000):
            self.assertIs(is_row(tuple(range(1, size + 1))), False, size)

    def test_all_tuples_of_few_small_numbers(self):
        for size in range(5):
            for numbers in itertools.product(range(-1, size + 2), repeat=size):
                due = size > 0 and sorted(numbers) == list(range(1, size + 1))
                self.assertIs(is_row(numbers), due, numbers)

    def test_other_numbers(self):
        for numbers in [(0,), (2,), (-1,), (BIG,), (-BIG,), (1, BIG), (0, 1), (2, 3), (1, 1), (1, 3), (2, 1, 2),
                        (1, 2, 4), (-1, -2), FORTY[:-1] + (41,), FORTY[:-1] + (39,), (0,) + FORTY[:-1]]:
            self.assertIs(is_row(numbers), False, numbers)

    def test_truths_are_no_numbers(self):
        for thing in [(True,), (False,), (True, 2), (2, True), (2, 3, True), (True, True), (False, 1)]:
            self.assertIs(is_row(thing), False, thing)
        self.assertIs(is_row(tuple(True if number == 1 else number for number in MIXED_FORTY)), False)

    def test_other_things(self):
        for thing in no_tuples() + [list(FORTY), "12", ("1",), ("1", "2"), (1, "2"), (1, None), (None, 1),
                                    (1, [2]), ([1], 2), (1, (2,)), ((1, 2),), ((1,), (2,)), ((1,), 2)]:
            self.assertIs(is_row(thing), False, repr(thing)[:100])
        for thing in tuples_of_others():
            self.assertIs(is_row(thing), False, repr(thing)[:100])


class TurnsTest(unittest.TestCase):

    def test_examples(self):
        self.assertEqual(backward((2, 4, 1, 3)), (3, 1, 4, 2))
        self.assertEqual(upside((2, 4, 1, 3)), (3, 1, 4, 2))
        self.assertEqual(aside((2, 4, 1, 3)), (3, 1, 4, 2))
        self.assertEqual(aside((2, 3, 1)), (3, 1, 2))
        self.assertEqual(backward((2, 3, 1)), (1, 3, 2))
        self.assertEqual(upside((2, 3, 1)), (2, 1, 3))

    def test_edges(self):
        for turn in (backward, upside, aside):
            self.assertEqual(turn((1,)), (1,))
        self.assertEqual(backward(FORTY), FORTY[::-1])
        self.assertEqual(upside(FORTY), FORTY[::-1])
        self.assertEqual(aside(FORTY), FORTY)
        self.assertEqual(aside(FORTY[::-1]), FORTY[::-1])

    def test_what_they_are(self):
        for row in itertools.chain(rows_to(6), [FORTY, MIXED_FORTY, MIXED_39]):
            size = len(row)
            self.assertEqual(backward(row), tuple(row[size - 1 - place] for place in range(size)))
            self.assertEqual(upside(row), tuple(size + 1 - number for number in row))
            self.assertEqual(aside(row), tuple(row.index(number) + 1 for number in range(1, size + 1)))

    def test_told_are_rows_that_may_be_handed_in_again(self):
        for row in itertools.chain(rows_to(5), [MIXED_FORTY]):
            for turn in (backward, upside, aside):
                self.assertIs(is_row(turn(row)), True)
                self.assertEqual(turn(turn(row)), row)


class ShapeAtTest(Refusing, unittest.TestCase):

    def test_examples(self):
        self.assertEqual(shape_at((3, 5, 1, 4, 2), (0, 1, 3)), (1, 3, 2))

    def test_all_places_of_small_rows(self):
        for row in rows_to(5):
            for many in range(1, len(row) + 1):
                for places in itertools.combinations(range(len(row)), many):
                    self.assertEqual(shape_at(row, places), shape_of([row[place] for place in places]))

    def test_all_places_at_once(self):
        for row in [(1,), (2, 1), (3, 5, 1, 4, 2), FORTY, MIXED_FORTY]:
            self.assertEqual(shape_at(row, tuple(range(len(row)))), row)

    def test_a_row_of_forty(self):
        for places in [(0,), (39,), (0, 39), (5, 17, 38), tuple(range(0, 40, 2)), tuple(range(39))]:
            self.assertEqual(shape_at(MIXED_FORTY, places), shape_of([MIXED_FORTY[place] for place in places]))

    def test_places_beyond_the_row(self):
        for row in [(1,), (2, 1), (3, 5, 1, 4, 2), MIXED_FORTY]:
            size = len(row)
            self.assertEqual(shape_at(row, (0,)), (1,))
            self.assertEqual(shape_at(row, (size - 1,)), (1,))
            for place in (size, size + 1, -1, -size, BIG, -BIG):
                self.assert_refused(NoPlaces, shape_at, row, (place,))
                self.assert_refused(NoPlaces, shape_at, row, (0, place))
            self.assert_refused(NoPlaces, shape_at, row, tuple(range(size + 1)))
            self.assert_refused(NoPlaces, shape_at, row, tuple(range(-1, size)))

    def test_none_twice_or_falling(self):
        row = (3, 5, 1, 4, 2)
        for places in [(), (0, 0), (1, 1), (4, 4), (0, 1, 1), (0, 0, 1), (1, 0), (4, 3), (0, 2, 1), (1, 0, 2),
                       (0, 1, 2, 3, 4, 4), (0, 1, 0), (4, 3, 2, 1, 0)]:
            self.assert_refused(NoPlaces, shape_at, row, places)

    def test_truths_are_no_places(self):
        row = (3, 5, 1, 4, 2)
        for places in [(True,), (False,), (0, True), (False, 1), (False, True), (False, True, 2), (True, 2)]:
            self.assert_refused(NoPlaces, shape_at, row, places)

    def test_other_things(self):
        others = no_tuples() + tuples_of_others() + [
            [0, 1, 3], "013", ("0",), ((0, 1),), ((0,), (1,)), ([0], 1), (0, [1]), (0, (1,)), (0, "1"), (0, None),
        ]
        for row in [(1,), (2, 1), (3, 5, 1, 4, 2), MIXED_FORTY]:
            for thing in others:
                self.assert_refused(NoPlaces, shape_at, row, thing)


class PutInTest(Refusing, unittest.TestCase):

    def slow_put_in(self, row, place, number):
        # Halves between the numbers: the put-in one stands just below those from it on.
        doubled = [2 * other for other in row]
        doubled.insert(place, 2 * number - 1)
        return shape_of(doubled)

    def test_examples(self):
        self.assertEqual(put_in((2, 1), 1, 2), (3, 2, 1))
        self.assertEqual(put_in((1, 2, 3), 0, 4), (4, 1, 2, 3))
        self.assertEqual(put_in((1, 2, 3), 3, 1), (2, 3, 4, 1))

    def test_edges(self):
        self.assertEqual(put_in((1,), 0, 1), (1, 2))
        self.assertEqual(put_in((1,), 0, 2), (2, 1))
        self.assertEqual(put_in((1,), 1, 1), (2, 1))
        self.assertEqual(put_in((1,), 1, 2), (1, 2))

    def test_all_places_and_numbers(self):
        for row in itertools.chain(rows_to(5), [MIXED_39]):
            size = len(row)
            for place in range(size + 1):
                for number in range(1, size + 2):
                    grown = put_in(row, place, number)
                    self.assertEqual(grown, self.slow_put_in(row, place, number))
                    self.assertIs(is_row(grown), True)
                    self.assertEqual(grown[place], number)
                    self.assertEqual(taken_out(grown, place), row)

    def test_places_and_numbers_beyond(self):
        for row in [(1,), (2, 1), (3, 5, 1, 4, 2), MIXED_39]:
            size = len(row)
            for place in (-1, -size, size + 1, size + 2, BIG, -BIG):
                self.assert_refused(NoPlaces, put_in, row, place, 1)
                self.assert_refused(NoPlaces, put_in, row, place, size + 1)
            for number in (0, -1, size + 2, size + 3, BIG, -BIG):
                self.assert_refused(NoPlaces, put_in, row, 0, number)
                self.assert_refused(NoPlaces, put_in, row, size, number)
            self.assert_refused(NoPlaces, put_in, row, size + 1, size + 2)

    def test_a_row_of_forty(self):
        for row in (FORTY, MIXED_FORTY):
            for place in (0, 1, 39, 40, 41):
                for number in (1, 2, 40, 41, 42):
                    self.assert_refused(NoPlaces, put_in, row, place, number)

    def test_other_things(self):
        for row in [(1,), (3, 5, 1, 4, 2), MIXED_39, MIXED_FORTY]:
            for thing in no_wholes():
                self.assert_refused(NoPlaces, put_in, row, thing, 1)
                self.assert_refused(NoPlaces, put_in, row, 0, thing)
                self.assert_refused(NoPlaces, put_in, row, thing, thing)


class TakenOutTest(Refusing, unittest.TestCase):

    def test_examples(self):
        self.assertEqual(taken_out((3, 5, 1, 4, 2), 2), (2, 4, 3, 1))
        self.assertEqual(taken_out((3, 5, 1, 4, 2), 0), (4, 1, 3, 2))
        self.assertEqual(taken_out((3, 5, 1, 4, 2), 4), (2, 4, 1, 3))

    def test_all_places(self):
        for row in itertools.chain(rows_to(5), [FORTY, MIXED_FORTY]):
            if len(row) == 1:
                continue
            for place in range(len(row)):
                left = row[:place] + row[place + 1:]
                self.assertEqual(taken_out(row, place), shape_of(left))
                if len(row) < 40 or place in (0, 20, 39):
                    self.assertEqual(put_in(taken_out(row, place), place, row[place]), row)

    def test_edges(self):
        self.assertEqual(taken_out((1, 2), 0), (1,))
        self.assertEqual(taken_out((2, 1), 1), (1,))

    def test_places_beyond(self):
        for row in [(1, 2), (3, 5, 1, 4, 2), MIXED_FORTY]:
            size = len(row)
            for place in (-1, -size, size, size + 1, BIG, -BIG):
                self.assert_refused(NoPlaces, taken_out, row, place)

    def test_a_row_of_one(self):
        for place in [0, 1, -1, BIG] + no_wholes():
            self.assert_refused(NoPlaces, taken_out, (1,), place)

    def test_other_things(self):
        for row in [(1, 2), (3, 5, 1, 4, 2), MIXED_FORTY]:
            for thing in no_wholes():
                self.assert_refused(NoPlaces, taken_out, row, thing)


class RefusalTest(unittest.TestCase):

    def test_refusals_are_row_errors_and_value_errors(self):
        calls = [(shape_at, (1, 2), ()), (put_in, (1, 2), 3, 1), (taken_out, (1,), 0)]
        for error in (NoPlaces, RowError, ValueError):
            for function, *handed in calls:
                with self.assertRaises(error):
                    function(*handed)


class AskedAgainTest(Asking, unittest.TestCase):

    QUESTIONS = [
        (is_row, (2, 1)), (is_row, [2, 1]), (is_row, ([0], [1, [2]])), (backward, (2, 3, 1)), (upside, (2, 3, 1)),
        (aside, (2, 3, 1)), (shape_at, (3, 5, 1, 4, 2), (0, 1, 3)), (put_in, (2, 1), 1, 2),
        (taken_out, (3, 5, 1, 4, 2), 2),
    ]
    REFUSED = [
        (NoPlaces, shape_at, (3, 5, 1, 4, 2), [0, 1, 3]), (NoPlaces, put_in, (2, 1), 3, 2),
        (NoPlaces, put_in, (2, 1), 1, 4), (NoPlaces, taken_out, (3, 5, 1, 4, 2), 5), (NoPlaces, taken_out, (1,), 0),
        (NoPlaces, shape_at, (2, 1, 3), ([0], [1, [2]])), (NoPlaces, put_in, (2, 1, 3), [1, 0], [2]),
        (NoPlaces, taken_out, (2, 1, 3), [1, 0]),
    ]


if __name__ == "__main__":
    unittest.main()
