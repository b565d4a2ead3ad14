"""[7], [10]: whole stretches of rows, and whether a thing is an unbroken row."""

import itertools
import unittest

from knotlessrows.errors import TooMany
from knotlessrows.rows import aside, backward, upside
from knotlessrows.stretches import is_unbroken, whole_stretches
from knotlessrows.unbroken import unbroken_rows
from tests.asking import Asking
from tests.slow import rows_of, rows_to, unbroken, whole
from tests.things import BIG, FORTY, MIXED_FORTY, ZIGZAG_FORTY, any_things



class WholeStretchesTest(unittest.TestCase):

    def test_examples(self):
        self.assertEqual(whole_stretches((1,)), [])
        self.assertEqual(whole_stretches((1, 2)), [(0, 2)])
        self.assertEqual(whole_stretches((2, 1)), [(0, 2)])
        self.assertEqual(whole_stretches((2, 4, 1, 3)), [(0, 4)])
        self.assertEqual(whole_stretches((1, 2, 3)), [(0, 2), (0, 3), (1, 3)])
        self.assertEqual(whole_stretches((3, 5, 4, 1, 2)), [(0, 3), (0, 5), (1, 3), (3, 5)])
        self.assertEqual(whole_stretches((2, 5, 3, 4, 1)), [(0, 4), (0, 5), (1, 4), (2, 4)])

    def test_kinds(self):
        told = whole_stretches((3, 5, 4, 1, 2))
        self.assertIs(type(told), list)
        for stretch in told:
            self.assertIs(type(stretch), tuple)
            self.assertEqual([type(place) for place in stretch], [int, int])

    def test_all_small_rows(self):
        for row in rows_to(7):
            told = whole_stretches(row)
            self.assertEqual(told, sorted(whole(row)), row)

    def test_rises_and_falls_have_all(self):
        for size in range(1, 41):
            due = [(begin, end) for begin in range(size) for end in range(begin + 2, size + 1)]
            self.assertEqual(whole_stretches(FORTY[:size]), due)
            self.assertEqual(whole_stretches(FORTY[:size][::-1]), due)

    def test_rows_of_sixteen_and_forty(self):
        self.assertEqual(whole_stretches(ZIGZAG_FORTY), [(0, 40)])
        rows = [MIXED_FORTY, MIXED_FORTY[20:] + MIXED_FORTY[:20], tuple(range(20, 0, -1)) + tuple(range(40, 20, -1)),
                (2, 1, 4, 3, 6, 5, 8, 7, 16, 15, 14, 13, 9, 10, 11, 12), (5, 10, 2, 7, 12, 1, 8, 4, 11, 3, 9, 6)]
        for row in rows:
            self.assertEqual(whole_stretches(row), sorted(whole(row)))


class IsUnbrokenTest(unittest.TestCase):

    def test_examples(self):
        self.assertIs(is_unbroken((2, 4, 1, 3)), True)
        self.assertIs(is_unbroken((3, 1, 4, 2)), True)
        self.assertIs(is_unbroken((1, 2, 3, 4)), False)
        self.assertIs(is_unbroken((2, 4, 1, 3, 5)), False)
        self.assertIs(is_unbroken((2, 5, 3, 1, 4)), True)

    def test_all_small_rows(self):
        for row in rows_to(7):
            self.assertIs(is_unbroken(row), unbroken(row), row)

    def test_none_of_fewer_than_four(self):
        for row in rows_to(3):
            self.assertIs(is_unbroken(row), False)

    def test_how_many(self):
        for size, many in [(4, 2), (5, 6), (6, 46), (7, 338)]:
            self.assertEqual(sum(is_unbroken(row) for row in rows_of(size)), many)

    def test_rows_of_many_numbers(self):
        for many in range(2, 21):
            row = tuple(range(2, 2 * many + 1, 2)) + tuple(range(1, 2 * many, 2))
            for turned in (row, backward(row), upside(row), aside(row), backward(aside(row))):
                self.assertIs(is_unbroken(turned), True)
        for size in range(1, 41):
            self.assertIs(is_unbroken(FORTY[:size]), False)
            self.assertIs(is_unbroken(FORTY[:size][::-1]), False)
        self.assertIs(is_unbroken(MIXED_FORTY), unbroken(MIXED_FORTY))
        swapped = tuple({2: 3, 3: 2}.get(number, number) for number in ZIGZAG_FORTY)
        self.assertEqual(whole(swapped), [(0, 2), (0, 40), (20, 22)])
        self.assertIs(is_unbroken(swapped), False)

    def test_a_single_whole_stretch_anywhere_breaks(self):
        # One number of an unbroken row is made two, side by side, that are neighbours in worth.
        row = (2, 5, 3, 1, 4)
        for place, low in itertools.product(range(5), range(2)):
            wide = [number + 1 if number > row[place] else number for number in row]
            pair = [row[place] + low, row[place] + 1 - low]
            self.assertIs(is_unbroken(tuple(wide[:place] + pair + wide[place + 1:])), False, (place, low))

    def test_truths_lists_texts(self):
        for thing in [(2, 4, True, 3), [2, 4, 1, 3], "2413", ("2", "4", "1", "3"), (2, 4, 1, None), (2, 4, (1,), 3),
                      (2, 4, 1, [3]), ((2, 4, 1, 3),), (2, 4, 1, 3, 3), (2, 4, 1), (2, 4, 1, 5), (1, 3, 0, 2),
                      (2, 4, 1, BIG), (2, 4, 1, -BIG), (False, 2, 4, 1, 3)]:
            self.assertIs(is_unbroken(thing), False, thing)

    def test_more_than_forty(self):
        for many in (21, 22, 50, 2000):
            self.assertIs(is_unbroken(tuple(range(2, 2 * many + 1, 2)) + tuple(range(1, 2 * many, 2))), False)
        self.assertIs(is_unbroken(tuple((7 * place) % 43 for place in range(1, 43))), False)

    def test_any_things(self):
        for thing in any_things() + [()]:
            self.assertIs(is_unbroken(thing), False, repr(thing)[:100])


class AskedAgainTest(Asking, unittest.TestCase):

    QUESTIONS = [
        (whole_stretches, (3, 5, 4, 1, 2)), (whole_stretches, (1,)), (whole_stretches, (2, 4, 1, 3)),
        (whole_stretches, FORTY), (is_unbroken, (2, 4, 1, 3)), (is_unbroken, [2, 4, 1, 3]),
        (is_unbroken, ([2], [[4], 1], 3)), (is_unbroken, FORTY),
    ]
    REFUSED = [(TooMany, unbroken_rows, 3), (TooMany, unbroken_rows, 8)]


if __name__ == "__main__":
    unittest.main()
