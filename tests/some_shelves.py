"""Shelves for the tests, made the slow way."""

from tests.slow import closed, in_order_of_sizes, rows_of, unbroken

FOUR = (2, 4, 1, 3)
OTHER_FOUR = (3, 1, 4, 2)
FIVES = [row for row in rows_of(5) if unbroken(row)]
SIXES = [row for row in rows_of(6) if unbroken(row)]
TO_FIVE = closed(FIVES)

# Twenty rows, and one more: each row of six numbers has but such of four and five in it.
TWENTY = tuple(in_order_of_sizes(list(TO_FIVE) + SIXES[:12]))
TWENTY_ONE = tuple(in_order_of_sizes(list(TO_FIVE) + SIXES[:13]))

SMALL_SHELVES = [
    (), (FOUR,), (OTHER_FOUR,), (FOUR, OTHER_FOUR), closed([(2, 5, 3, 1, 4)]), closed([(4, 1, 3, 5, 2)]),
    closed(FIVES[:3]), TO_FIVE,
]
LONGER_SHELVES = [
    closed([(2, 4, 6, 1, 3, 5)]), closed([(3, 6, 2, 5, 1, 4), (2, 4, 6, 3, 1, 5)]), closed([(5, 3, 1, 6, 4, 2)]),
    closed([(4, 1, 5, 2, 6, 3), (4, 1, 3, 5, 2)]), TWENTY,
    closed([(2, 4, 7, 5, 3, 1, 6)]), closed([(3, 6, 1, 4, 7, 2, 5)]),
    closed([(2, 7, 3, 6, 4, 1, 5), (6, 4, 1, 3, 5, 7, 2), (2, 4, 6, 1, 3, 5)]),
]
SHELVES = SMALL_SHELVES + LONGER_SHELVES
