"""[15], [16]: the profile of a shelf, and how many rows of each size its class has."""

import collections
import functools
import math
import time
import unittest

from knotlessrows.counts import counts, counts_by, profile, tops
from knotlessrows.errors import TooMany
from knotlessrows.trees import tree_of
from tests.asking import Asking
from tests.refusing import Refusing
from tests.slow import closed, of_class, rows_of, sizes_in_order
from tests.some_shelves import FIVES, FOUR, OTHER_FOUR, SHELVES, SIXES, SMALL_SHELVES, TO_FIVE, TWENTY
from tests.things import BIG

BOTH = (FOUR, OTHER_FOUR)
SEVEN = (2, 4, 7, 5, 3, 1, 6)
NO_SIZES = (0, -1, -2, -60, 61, 62, 100, 10 ** 9, BIG, -BIG)
PROFILES = [(0, 0, 0, 0), (1, 0, 0, 0), (2, 6, 46, 338), (0, 3, 0, 1), (0, 0, 0, 1), (400, 400, 400, 400), (1, 2, 3, 4)]


def by_the_words(handed, most):
    """(all, rises, falls, by shapes) as [16] says them, all ways to sum gone through."""
    every, rises, falls, shapes = {1: 1}, {1: 0}, {1: 0}, {1: [0, 0, 0, 0]}
    for n in range(2, most + 1):
        rises[n] = sum((every[k] - rises[k]) * every[n - k] for k in range(1, n))
        falls[n] = rises[n]
        shapes[n] = [sum(math.prod(every[size] for size in sizes) for sizes in sizes_in_order(m, n))
                     for m in (4, 5, 6, 7)]
        every[n] = rises[n] + falls[n] + sum(many * ways for many, ways in zip(handed, shapes[n]))
    return every, rises, falls, shapes


@functools.lru_cache(maxsize=None)
def rows_and_tops(size):
    """Each row of so many numbers with what its tree has on top."""
    return [(row, (tree_of(row)[0], tree_of(row)[1] if tree_of(row)[0] == "shape" else None)) for row in rows_of(size)]


class ProfileTest(unittest.TestCase):

    def test_examples(self):
        self.assertEqual(profile(()), (0, 0, 0, 0))
        self.assertEqual(profile((FOUR,)), (1, 0, 0, 0))
        self.assertEqual(profile(TO_FIVE), (2, 6, 0, 0))
        self.assertEqual(profile(TWENTY), (2, 6, 12, 0))
        self.assertEqual(profile(closed([(2, 4, 6, 1, 3, 5)])), (1, 0, 1, 0))
        self.assertEqual(profile(closed([SEVEN])), (1, 1, 1, 1))

    def test_all_shelves(self):
        for shelf in SHELVES:
            told = profile(shelf)
            self.assertIs(type(told), tuple)
            self.assertEqual(told, tuple(sum(1 for row in shelf if len(row) == size) for size in (4, 5, 6, 7)))


class CountsTest(Refusing, unittest.TestCase):

    def test_of_the_empty_shelf(self):
        self.assertEqual(counts((), 10), [1, 2, 6, 22, 90, 394, 1806, 8558, 41586, 206098])
        self.assertEqual(counts_by((0, 0, 0, 0), 10), counts((), 10))

    def test_all_rows_there_are(self):
        told = counts_by((2, 6, 46, 338), 8)
        self.assertEqual(told[:7], [math.factorial(n) for n in range(1, 8)])
        # Of eight numbers all are told but the unbroken rows.
        self.assertEqual(told[7], math.factorial(8) - 2926)

    def test_rows_gone_through_one_by_one(self):
        for shelf in SHELVES:
            due = [sum(1 for row in rows_of(size) if of_class(shelf, row)) for size in range(1, 8)]
            self.assertEqual(counts(shelf, 7), due, shelf)
            self.assertEqual(counts_by(profile(shelf), 7), due)

    def test_the_sums_as_the_document_says_them(self):
        for handed in PROFILES:
            every = by_the_words(handed, 14)[0]
            for n in (1, 2, 3, 4, 5, 8, 14):
                self.assertEqual(counts_by(handed, n), [every[size] for size in range(1, n + 1)], handed)

    def test_sizes(self):
        for shelf in SHELVES:
            longest = counts(shelf, 60)
            self.assertIs(type(longest), list)
            self.assertEqual(len(longest), 60)
            self.assertTrue(all(type(many) is int for many in longest))
            for n in (1, 2, 3, 59):
                self.assertEqual(counts(shelf, n), longest[:n])
                self.assertEqual(counts_by(profile(shelf), n), longest[:n])
            self.assertEqual(longest[:3], [1, 2, 6])

    def test_noughts_and_many(self):
        self.assertEqual(counts_by((0, 0, 0, 0), 1), [1])
        self.assertEqual(counts_by((400, 400, 400, 400), 1), [1])
        self.assertEqual(counts_by((400, 400, 400, 400), 4), [1, 2, 6, 422])
        self.assertEqual(counts_by((0, 0, 0, 400), 7), [1, 2, 6, 22, 90, 394, 2206])
        self.assertGreater(counts_by((400,) * 4, 60)[-1], counts_by((400, 400, 400, 399), 60)[-1])

    def test_shelves_with_one_profile_alike(self):
        self.assertEqual(counts((FOUR,), 60), counts((OTHER_FOUR,), 60))
        self.assertEqual(counts(closed([(2, 4, 6, 1, 3, 5)]), 60), counts(closed([(5, 3, 1, 6, 4, 2)]), 60))
        self.assertNotEqual(counts(closed(FIVES[:3]), 60), counts(closed(FIVES[:4]), 60))

    def test_sixty_is_answered_quickly(self):
        begun = time.monotonic()
        counts_by((400, 400, 400, 400), 60)
        counts(TWENTY, 60)
        tops(TWENTY, 60)
        self.assertLess(time.monotonic() - begun, 10)

    def test_other_sizes_are_refused(self):
        for n in NO_SIZES:
            for handed in PROFILES:
                self.assert_refused(TooMany, counts_by, handed, n)
            for shelf in SMALL_SHELVES:
                self.assert_refused(TooMany, counts, shelf, n)


class TopsTest(Refusing, unittest.TestCase):

    def test_examples(self):
        self.assertEqual(tops((), 1), (1, 0, 0, []))
        self.assertEqual(tops((), 2), (0, 1, 1, []))
        self.assertEqual(tops(BOTH, 1), (1, 0, 0, [0, 0]))
        self.assertEqual(tops(BOTH, 4), (0, 11, 11, [1, 1]))
        self.assertEqual(tops(BOTH, 5), (0, 49, 49, [8, 8]))

    def test_kinds(self):
        told = tops(TO_FIVE, 9)
        self.assertIs(type(told), tuple)
        self.assertEqual([type(part) for part in told], [int, int, int, list])
        self.assertTrue(all(type(many) is int for many in told[3]))

    def test_rows_gone_through_one_by_one(self):
        for shelf in SHELVES:
            for n in range(1, 8):
                on_top = collections.Counter(top for row, top in rows_and_tops(n) if of_class(shelf, row))
                due = (on_top[("one", None)], on_top[("rise", None)], on_top[("fall", None)],
                       [on_top[("shape", row)] for row in shelf])
                self.assertEqual(tops(shelf, n), due, (shelf, n))

    def test_the_sums_as_the_document_says_them(self):
        for shelf in SHELVES:
            every, rises, falls, shapes = by_the_words(profile(shelf), 11)
            for n in range(2, 12):
                due = (0, rises[n], falls[n], [shapes[n][len(row) - 4] for row in shelf])
                self.assertEqual(tops(shelf, n), due, (shelf, n))

    def test_they_come_together_to_all(self):
        for shelf in SHELVES:
            every = counts(shelf, 60)
            for n in (1, 2, 3, 4, 5, 7, 10, 31, 59, 60):
                ones, rises, falls, shapes = tops(shelf, n)
                self.assertEqual(len(shapes), len(shelf))
                self.assertEqual(ones + rises + falls + sum(shapes), every[n - 1])

    def test_other_sizes_are_refused(self):
        for n in NO_SIZES:
            for shelf in SMALL_SHELVES:
                self.assert_refused(TooMany, tops, shelf, n)


class AskedAgainTest(Asking, unittest.TestCase):

    QUESTIONS = [
        (profile, ()), (profile, TWENTY), (counts_by, (0, 0, 0, 0), 1), (counts_by, (1, 2, 3, 4), 30),
        (counts, (), 5), (counts, BOTH, 5), (counts, BOTH, 60), (counts, TWENTY, 20), (tops, (), 1), (tops, (), 4),
        (tops, BOTH, 4), (tops, TWENTY, 12), (tops, tuple(SIXES[:0]), 7),
    ]
    REFUSED = [
        (TooMany, function, first, n) for n in (0, 61, -1, BIG)
        for function, first in ((counts_by, (1, 2, 3, 4)), (counts, BOTH), (tops, BOTH))
    ]


if __name__ == "__main__":
    unittest.main()
