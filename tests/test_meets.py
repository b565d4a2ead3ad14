"""[19], [20]: how shelves meet, join and lie within one another, and the shelves next to a shelf."""

import functools
import itertools
import unittest

from knotlessrows.classes import is_of
from knotlessrows.errors import NoChain, NoShelf
from knotlessrows.meets import chain, joined, just_above, just_below, least_between, met
from knotlessrows.shelves import is_shelf, shelf_of
from tests.asking import Asking
from tests.refusing import Refusing
from tests.slow import closed, in_order_of_sizes, of_class, rows_of, rows_to, unbroken
from tests.some_shelves import FIVES, FOUR, LONGER_SHELVES, OTHER_FOUR, SHELVES, SIXES, SMALL_SHELVES, TO_FIVE, TWENTY

BOTH = (FOUR, OTHER_FOUR)
PAIRS = list(itertools.product(SHELVES, SHELVES))
EIGHT = (2, 4, 6, 8, 1, 3, 5, 7)
# Twelve rows of six numbers are on TWENTY, and these are others.
SIX_MORE = closed([SIXES[12]])
NINETEEN = tuple(in_order_of_sizes(list(TO_FIVE) + SIXES[:11]))
# All rows of four and five, and some of six that aren't on TWENTY.
OTHER_TWENTY = tuple(in_order_of_sizes(list(TO_FIVE) + SIXES[20:32]))


@functools.lru_cache(maxsize=None)
def unbroken_to_seven():
    return tuple(row for size in range(4, 8) for row in rows_of(size) if unbroken(row))


def shelves_to_five():
    """All shelves of rows of four and five numbers."""
    choices = [rows for many in range(9) for rows in itertools.combinations(TO_FIVE, many)]
    return [rows for rows in choices if closed(rows) == rows]


class MetTest(unittest.TestCase):

    def test_examples(self):
        self.assertEqual(met((), ()), ())
        self.assertEqual(met(BOTH, (OTHER_FOUR,)), (OTHER_FOUR,))
        self.assertEqual(met((FOUR,), (OTHER_FOUR,)), ())
        self.assertEqual(met(TWENTY, OTHER_TWENTY), TO_FIVE)

    def test_rows_on_both(self):
        for one, other in PAIRS:
            told = met(one, other)
            self.assertIs(type(told), tuple)
            self.assertEqual(told, tuple(in_order_of_sizes(set(one) & set(other))))
            self.assertIs(is_shelf(told), True)
            self.assertEqual(met(other, one), told)

    def test_one_and_the_same(self):
        for shelf in SHELVES:
            self.assertEqual(met(shelf, shelf), shelf)
            self.assertEqual(met(shelf, ()), ())
            self.assertEqual(met((), shelf), ())

    def test_its_class_are_the_rows_of_both_classes(self):
        for one, other in PAIRS[::3]:
            told = met(one, other)
            for row in rows_to(5):
                self.assertIs(is_of(told, row), of_class(one, row) and of_class(other, row))
        for one, other in [(LONGER_SHELVES[1], LONGER_SHELVES[-1]), (TWENTY, LONGER_SHELVES[0])]:
            for row in rows_of(6):
                self.assertIs(is_of(met(one, other), row), of_class(one, row) and of_class(other, row))


class JoinedTest(Refusing, unittest.TestCase):

    def test_examples(self):
        self.assertEqual(joined((), ()), ())
        self.assertEqual(joined((OTHER_FOUR,), (FOUR,)), BOTH)
        self.assertEqual(joined(closed([FIVES[5]]), closed([FIVES[0]])), closed([FIVES[0], FIVES[5]]))

    def test_rows_on_either(self):
        for one, other in PAIRS:
            due = closed(one + other)
            if len(due) > 20:
                self.assert_refused(NoShelf, joined, one, other)
                continue
            told = joined(one, other)
            self.assertIs(type(told), tuple)
            self.assertEqual(told, due)
            self.assertIs(is_shelf(told), True)

    def test_the_least_one_that_holds_both(self):
        small = shelves_to_five()
        for one, other in itertools.product(small[::9], small[::11]):
            holding = [shelf for shelf in small if set(one) <= set(shelf) and set(other) <= set(shelf)]
            self.assertEqual(joined(one, other), min(holding, key=len))

    def test_one_and_the_same(self):
        for shelf in SHELVES:
            self.assertEqual(joined(shelf, shelf), shelf)
            self.assertEqual(joined(shelf, ()), shelf)
            self.assertEqual(joined((), shelf), shelf)

    def test_twenty_and_one_more(self):
        self.assertEqual((len(NINETEEN), len(TWENTY), len(OTHER_TWENTY)), (19, 20, 20))
        self.assertEqual(len(closed(NINETEEN + SIX_MORE)), 20)
        self.assertEqual(joined(NINETEEN, SIX_MORE), closed(NINETEEN + SIX_MORE))
        self.assertEqual(joined(SIX_MORE, NINETEEN), closed(NINETEEN + SIX_MORE))
        self.assertEqual(joined(TWENTY, NINETEEN), TWENTY)
        self.assertEqual(joined(TO_FIVE, TWENTY), TWENTY)
        self.assertEqual(len(closed(TWENTY + SIX_MORE)), 21)
        self.assert_refused(NoShelf, joined, TWENTY, SIX_MORE)
        self.assert_refused(NoShelf, joined, SIX_MORE, TWENTY)
        self.assert_refused(NoShelf, joined, TWENTY, OTHER_TWENTY)


class LeastBetweenTest(unittest.TestCase):

    def test_examples(self):
        self.assertIsNone(least_between((), ()))
        self.assertIsNone(least_between((FOUR,), BOTH))
        self.assertEqual(least_between(BOTH, (FOUR,)), OTHER_FOUR)
        self.assertEqual(least_between((FOUR,), (OTHER_FOUR,)), FOUR)
        self.assertEqual(least_between(TO_FIVE, BOTH), (2, 4, 1, 5, 3))

    def test_rows_gone_through_one_by_one(self):
        # Whatever is only on the one shelf has at most seven numbers, so no longer rows need to be tried.
        rows = list(rows_to(6))
        for one, other in itertools.product(SMALL_SHELVES + LONGER_SHELVES[:5], repeat=2):
            due = next((row for row in rows if of_class(one, row) and not of_class(other, row)), None)
            self.assertEqual(least_between(one, other), due, (one, other))

    def test_rows_of_seven(self):
        for shelf in LONGER_SHELVES[5:]:
            for row in [row for row in shelf if len(row) == 7]:
                other = tuple(kept for kept in shelf if kept != row)
                due = next(row for row in rows_to(7) if of_class(shelf, row) and not of_class(other, row))
                self.assertEqual(least_between(shelf, other), due)
                self.assertEqual(due, row)
                self.assertIsNone(least_between(other, shelf))

    def test_none_just_where_the_one_lies_within_the_other(self):
        for one, other in PAIRS:
            self.assertEqual(least_between(one, other) is None, set(one) <= set(other))

    def test_one_and_the_same(self):
        for shelf in SHELVES:
            self.assertIsNone(least_between(shelf, shelf))
            self.assertIsNone(least_between((), shelf))


class ChainTest(Refusing, unittest.TestCase):

    def assert_chain(self, one, other):
        told = chain(one, other)
        self.assertIs(type(told), list)
        self.assertEqual((told[0], told[-1]), (one, other))
        self.assertEqual(len(told), len(other) - len(one) + 1)
        for shelf in told:
            self.assertIs(is_shelf(shelf), True, shelf)
        for below, above in zip(told, told[1:]):
            self.assertEqual(len(above), len(below) + 1)
            self.assertTrue(set(below) < set(above))

    def test_all_pairs(self):
        for one, other in PAIRS + [(met(one, other), other) for one, other in PAIRS]:
            if set(one) <= set(other):
                self.assert_chain(one, other)
            else:
                self.assert_refused(NoChain, chain, one, other)

    def test_from_a_shelf_to_itself(self):
        for shelf in SHELVES:
            self.assertEqual(chain(shelf, shelf), [shelf])

    def test_from_nothing_to_twenty(self):
        self.assert_chain((), TWENTY)
        self.assertEqual(len(chain((), TWENTY)), 21)
        self.assert_refused(NoChain, chain, TWENTY, ())
        self.assert_refused(NoChain, chain, TWENTY, OTHER_TWENTY)
        self.assert_refused(NoChain, chain, (FOUR,), (OTHER_FOUR,))

    def test_small_shelves_gone_through(self):
        small = shelves_to_five()
        for one, other in itertools.product(small[::5], small[::3]):
            if set(one) <= set(other):
                self.assert_chain(one, other)
            else:
                self.assert_refused(NoChain, chain, one, other)


class NextToTest(unittest.TestCase):

    def test_examples(self):
        self.assertEqual(just_above(()), [(FOUR,), (OTHER_FOUR,)])
        self.assertEqual(just_below(()), [])
        self.assertEqual(just_below((FOUR,)), [()])
        self.assertEqual(just_below(BOTH), [(FOUR,), (OTHER_FOUR,)])

    def test_above_gone_through_one_by_one(self):
        for shelf in SHELVES + [NINETEEN]:
            due = []
            for row in unbroken_to_seven():
                rows = tuple(in_order_of_sizes(shelf + (row,)))
                if row not in shelf and len(rows) <= 20 and closed(rows) == rows:
                    due.append(rows)
            told = just_above(shelf)
            self.assertIs(type(told), list)
            self.assertEqual(told, sorted(due), shelf)

    def test_below_gone_through_one_by_one(self):
        for shelf in SHELVES + [NINETEEN]:
            without = [tuple(kept for kept in shelf if kept != row) for row in shelf]
            told = just_below(shelf)
            self.assertIs(type(told), list)
            self.assertEqual(told, sorted(rows for rows in without if closed(rows) == rows), shelf)

    def test_all_small_shelves(self):
        small = shelves_to_five()
        for shelf in small:
            self.assertEqual(just_below(shelf), sorted(other for other in small if set(other) < set(shelf)
                                                       and len(other) + 1 == len(shelf)))
            above = sorted(other for other in small if set(shelf) < set(other) and len(other) == len(shelf) + 1)
            self.assertEqual([other for other in just_above(shelf) if len(other[-1]) < 6], above)

    def test_twenty_has_none_above(self):
        self.assertEqual(just_above(TWENTY), [])
        self.assertIn(TWENTY, just_above(NINETEEN))
        self.assertIn(NINETEEN, just_below(TWENTY))

    def test_rows_of_eight_numbers_arent_put_on(self):
        # A zigzag of eight is least barred where one of six is on the shelf.
        shelf = shelf_of([(2, 4, 6, 1, 3, 5)])
        self.assertTrue(all(is_shelf(other) for other in just_above(shelf)))
        self.assertTrue(all(len(row) <= 7 for other in just_above(LONGER_SHELVES[-1]) for row in other))

    def test_a_row_that_stands_in_another_one(self):
        shelf = closed([(2, 4, 6, 1, 3, 5)])
        self.assertEqual(shelf, (FOUR, (2, 4, 6, 1, 3, 5)))
        self.assertEqual(just_below(shelf), [(FOUR,)])

    def test_sorted_as_tuples_go(self):
        # By tuples (2, 4, 1, 5, 3) comes ahead of (3, 1, 4, 2), which isn't so by sizes.
        shelf = closed([(2, 5, 3, 1, 4)])
        for told in (just_above(shelf), just_above((FOUR,)), just_below(TO_FIVE), just_below(TWENTY)):
            self.assertEqual(told, sorted(told))
            self.assertTrue(all(is_shelf(other) for other in told))


class AskedAgainTest(Asking, unittest.TestCase):

    QUESTIONS = [
        (met, (), ()), (met, BOTH, (FOUR,)), (met, TWENTY, TO_FIVE), (joined, (), ()), (joined, (FOUR,), (OTHER_FOUR,)),
        (joined, TWENTY, TO_FIVE), (least_between, BOTH, (FOUR,)), (least_between, (FOUR,), BOTH),
        (chain, (), ()), (chain, TWENTY, TWENTY), (chain, (), TWENTY), (chain, (FOUR,), TO_FIVE),
        (just_above, ()), (just_above, (FOUR,)), (just_above, TWENTY), (just_below, ()), (just_below, TWENTY),
    ]
    REFUSED = [
        (NoShelf, joined, TWENTY, SIX_MORE), (NoShelf, joined, OTHER_TWENTY, TWENTY), (NoChain, chain, BOTH, (FOUR,)),
        (NoChain, chain, TWENTY, ()), (NoShelf, shelf_of, [EIGHT]),
    ]


if __name__ == "__main__":
    unittest.main()
