"""[11]: shelves, the shelf of some rows, and shelves turned."""

import itertools
import unittest

from knotlessrows.errors import NoShelf
from knotlessrows.rows import aside, backward, upside
from knotlessrows.shelves import is_shelf, shelf_aside, shelf_backward, shelf_of, shelf_upside
from tests.asking import Asking
from tests.refusing import Refusing
from tests.slow import closed, in_order_of_sizes, rows_to, unbroken_standing_in
from tests.some_shelves import FIVES, FOUR, OTHER_FOUR, SHELVES, SIXES, TO_FIVE, TWENTY, TWENTY_ONE
from tests.things import FORTY, ZIGZAG_FORTY, any_things, nested

TEN = tuple(range(1, 11))
UNBROKEN_TEN = (2, 4, 6, 8, 10, 1, 3, 5, 7, 9)
SEVEN = (3, 6, 1, 4, 7, 2, 5)
EIGHT = (2, 4, 6, 8, 1, 3, 5, 7)


class IsShelfTest(unittest.TestCase):

    def test_shelves(self):
        for shelf in SHELVES:
            self.assertIs(is_shelf(shelf), True, shelf)

    def test_all_of_the_rows_of_four_and_five(self):
        # Each choice of them, in order: a shelf just where it is closed.
        for many in range(9):
            for rows in itertools.combinations(TO_FIVE, many):
                self.assertIs(is_shelf(rows), closed(rows) == rows, rows)

    def test_twenty_and_one_more(self):
        self.assertEqual((len(TWENTY), len(TWENTY_ONE)), (20, 21))
        self.assertEqual(closed(TWENTY_ONE), TWENTY_ONE)
        self.assertIs(is_shelf(TWENTY), True)
        self.assertIs(is_shelf(TWENTY_ONE), False)
        self.assertIs(is_shelf(TO_FIVE + tuple(SIXES)), False)

    def test_rows_of_seven_and_eight_numbers(self):
        self.assertIs(is_shelf(closed([SEVEN])), True)
        self.assertIs(is_shelf(closed([EIGHT])), False)
        self.assertIs(is_shelf(closed([EIGHT])[:-1]), True)
        self.assertIs(is_shelf((ZIGZAG_FORTY,)), False)
        self.assertIs(is_shelf((FOUR, ZIGZAG_FORTY)), False)

    def test_a_row_left_out(self):
        for shelf in SHELVES:
            for left in range(len(shelf)):
                rows = shelf[:left] + shelf[left + 1:]
                self.assertIs(is_shelf(rows), closed(rows) == rows, rows)
        self.assertIs(is_shelf(((2, 4, 6, 1, 3, 5),)), False)
        self.assertIs(is_shelf((OTHER_FOUR, (2, 4, 6, 1, 3, 5))), False)
        self.assertIs(is_shelf((OTHER_FOUR, (2, 5, 3, 1, 4))), False)
        self.assertIs(is_shelf((FOUR, (3, 5, 1, 4, 2))), False)

    def test_a_row_twice_and_other_orders(self):
        for shelf in SHELVES[1:]:
            self.assertIs(is_shelf(shelf + shelf[-1:]), False)
            self.assertIs(is_shelf(shelf[:1] + shelf), False)
            self.assertIs(is_shelf(shelf[::-1]), len(shelf) == 1)
            for at in range(len(shelf) - 1):
                swapped = shelf[:at] + (shelf[at + 1], shelf[at]) + shelf[at + 2:]
                self.assertIs(is_shelf(swapped), False)
        # Sorted as tuples go, which isn't the order of sizes.
        by_tuples = tuple(sorted(TO_FIVE))
        self.assertNotEqual(by_tuples, TO_FIVE)
        self.assertIs(is_shelf(by_tuples), False)

    def test_broken_rows(self):
        for row in [(1,), (1, 2), (2, 1, 3), (1, 2, 3, 4), (2, 4, 1, 3, 5), (), FORTY]:
            self.assertIs(is_shelf((row,)), False)
            self.assertIs(is_shelf((FOUR, row)), False)
            self.assertIs(is_shelf((row, FOUR)), False)

    def test_truths_lists_texts(self):
        for thing in [((2, 4, True, 3),), (FOUR, (3, True, 4, 2)), [FOUR], ([2, 4, 1, 3],), (FOUR, [3, 1, 4, 2]), [],
                      "-", "2 4 1 3", ("2413",), (("2", "4", "1", "3"),), ((FOUR,),), (FOUR, None), (None,), (True,),
                      (FOUR, True), (FOUR, ()), ((FOUR, OTHER_FOUR),), (FOUR, (OTHER_FOUR,)), FOUR, (2, 4, 1, (3,)),
                      None, True, False, 0]:
            self.assertIs(is_shelf(thing), False, thing)

    def test_any_things(self):
        self.assertIs(is_shelf(()), True)
        for thing in any_things() + [(FOUR,) * 1000, (FOUR, nested(tuple, 89)), (nested(list, 89), FOUR)]:
            self.assertIs(is_shelf(thing), False, repr(thing)[:100])


class ShelfOfTest(Refusing, unittest.TestCase):

    def test_examples(self):
        self.assertEqual(shelf_of([]), ())
        self.assertEqual(shelf_of([(1,)]), ())
        self.assertEqual(shelf_of([TEN, TEN[::-1]]), ())
        self.assertEqual(shelf_of([FOUR]), (FOUR,))
        self.assertEqual(shelf_of([OTHER_FOUR, FOUR, FOUR]), (FOUR, OTHER_FOUR))
        self.assertEqual(shelf_of([(3, 5, 1, 4, 2)]), (FOUR, OTHER_FOUR, (3, 5, 1, 4, 2)))
        self.assertIs(type(shelf_of([FOUR])), tuple)

    def test_all_small_rows_alone(self):
        for row in rows_to(6):
            told = shelf_of([row])
            self.assertEqual(told, tuple(unbroken_standing_in(row)))
            self.assertIs(is_shelf(told), True)

    def test_several_rows(self):
        lists = [FIVES[:6], SIXES[:2], [(2, 4, 6, 1, 3, 5), (1, 2), FOUR, (5, 3, 1, 6, 4, 2), TEN, (1,)],
                 [SEVEN, (2, 1)], [(2, 4, 1, 3, 6, 8, 5, 7, 10, 9)], [FIVES[5], FIVES[0], FIVES[5]],
                 [(4, 5, 10, 8, 9, 1, 2, 6, 7, 3), (3, 1, 2)]]
        for rows in lists:
            told = shelf_of(rows)
            self.assertEqual(told, closed(rows))
            self.assertIs(is_shelf(told), True)
            self.assertEqual(shelf_of(rows[::-1]), told)

    def test_shelves_there_and_back(self):
        for shelf in SHELVES:
            longest = [row for row in shelf if not any(row in unbroken_standing_in(other)
                                                       for other in shelf if other != row)]
            if len(longest) <= 6:
                self.assertEqual(shelf_of(longest), shelf)

    def test_an_unbroken_row_of_eight(self):
        self.assertLessEqual(len(closed([EIGHT])), 20)
        self.assert_refused(NoShelf, shelf_of, [EIGHT])
        self.assert_refused(NoShelf, shelf_of, [FOUR, EIGHT])
        self.assert_refused(NoShelf, shelf_of, [EIGHT, (1,)])
        self.assert_refused(NoShelf, shelf_of, [UNBROKEN_TEN])
        # It stands in one of nine, which is no unbroken one.
        self.assert_refused(NoShelf, shelf_of, [EIGHT + (9,)])
        self.assert_refused(NoShelf, shelf_of, [(10,) + EIGHT + (9,)])

    def test_a_broken_row_of_ten_with_one_of_seven(self):
        row = tuple(number + 1 for number in SEVEN)
        self.assertEqual(shelf_of([(1,) + row + (10, 9)]), closed([SEVEN]))

    def test_twenty_and_more(self):
        twenty = [(2, 4, 6, 1, 5, 7, 3), (5, 2, 7, 4, 1, 6, 3)]
        twenty_one = [(2, 4, 7, 1, 6, 3, 5), (3, 6, 1, 4, 7, 2, 5)]
        more = [(3, 6, 1, 4, 7, 2, 5), (5, 2, 7, 4, 1, 6, 3)]
        self.assertEqual([len(closed(rows)) for rows in (twenty, twenty_one, more)], [20, 21, 24])
        self.assertEqual(shelf_of(twenty), closed(twenty))
        self.assertIs(is_shelf(shelf_of(twenty)), True)
        # With rows that stand in these already there are no more.
        self.assertEqual(shelf_of(twenty + [FOUR, OTHER_FOUR, TEN, twenty[0]]), closed(twenty))
        self.assert_refused(NoShelf, shelf_of, twenty_one)
        self.assert_refused(NoShelf, shelf_of, twenty_one[::-1])
        self.assert_refused(NoShelf, shelf_of, more)
        self.assert_refused(NoShelf, shelf_of, twenty + twenty_one)
        self.assertEqual(shelf_of(twenty_one[:1]), closed(twenty_one[:1]))

    def test_more_than_twenty_and_one_of_eight(self):
        self.assert_refused(NoShelf, shelf_of, [(2, 4, 7, 1, 6, 3, 5), (3, 6, 1, 4, 7, 2, 5), EIGHT])


class TurnsTest(unittest.TestCase):

    TURNS = [(shelf_backward, backward), (shelf_upside, upside), (shelf_aside, aside)]

    def test_examples(self):
        for turn, _ in self.TURNS:
            self.assertEqual(turn(()), ())
            self.assertEqual(turn((FOUR,)), (OTHER_FOUR,))
            self.assertEqual(turn((FOUR, OTHER_FOUR)), (FOUR, OTHER_FOUR))
            self.assertEqual(turn(TO_FIVE), TO_FIVE)

    def test_rows_turned_in_order_again(self):
        for shelf in SHELVES:
            for turn, turn_row in self.TURNS:
                told = turn(shelf)
                self.assertIs(type(told), tuple)
                self.assertEqual(told, tuple(in_order_of_sizes(turn_row(row) for row in shelf)))
                self.assertIs(is_shelf(told), True)
                self.assertEqual(turn(told), shelf)


class AskedAgainTest(Asking, unittest.TestCase):

    QUESTIONS = [
        (is_shelf, ()), (is_shelf, TWENTY), (is_shelf, [FOUR]), (is_shelf, ([2, 4, 1, 3], [[]])), (shelf_of, []),
        (shelf_of, [FOUR]), (shelf_of, [(3, 5, 1, 4, 2), (1,), OTHER_FOUR]), (shelf_of, [SEVEN, TEN]),
        (shelf_backward, TWENTY), (shelf_upside, TWENTY), (shelf_aside, TWENTY), (shelf_aside, ()),
    ]
    REFUSED = [
        (NoShelf, shelf_of, [EIGHT]), (NoShelf, shelf_of, [FOUR, UNBROKEN_TEN]),
        (NoShelf, shelf_of, [SEVEN, (5, 2, 7, 4, 1, 6, 3)]),
    ]

    def test_a_list_changed_behind_the_call(self):
        rows = [(3, 5, 1, 4, 2), FOUR]
        told = shelf_of(rows)
        rows.append(SEVEN)
        self.assertEqual(told, closed([(3, 5, 1, 4, 2)]))
        self.assertEqual(shelf_of(rows), closed([(3, 5, 1, 4, 2), SEVEN]))
        rows.clear()
        self.assertEqual(shelf_of(rows), ())
        self.assertEqual(told, closed([(3, 5, 1, 4, 2)]))


if __name__ == "__main__":
    unittest.main()
