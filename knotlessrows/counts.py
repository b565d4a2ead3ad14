"""How many rows of each size a class has."""

from knotlessrows.errors import TooMany
from knotlessrows.rows import is_within
from knotlessrows.shelves import MOST_LONG
from knotlessrows.stretches import LEAST_UNBROKEN

MOST_COUNTED = 60


def profile(shelf):
    """How many rows of the shelf have four, five, six and seven numbers."""
    sizes = [len(row) for row in shelf]
    return tuple([sizes.count(size) for size in range(LEAST_UNBROKEN, MOST_LONG + 1)])


def refuse_size(n):
    """Refuses a size whose rows aren't counted."""
    if not is_within(n, 1, MOST_COUNTED):
        raise TooMany("rows are counted of one to sixty numbers")


def sum_of_products(left, right, size):
    """The sum, over k from 1 to size - 1, of the one at k times the other at size - k."""
    return sum([left[k] * right[size - k] for k in range(1, size)])


def worked_out(profile, n):
    """Two lists: of the rises, by their sizes to n; and, by m, of the lists of m rows side by side, by their sizes.

    The rows by themselves stand at m = 1. All that is due of a size hangs on smaller
    ones alone, so each number is worked out once, size by size.
    """
    side_by_side = [[0] for m in range(MOST_LONG + 1)]
    rows = side_by_side[1]
    rises = [0]
    no_rises = [0]
    for size in range(1, n + 1):
        for m in range(2, MOST_LONG + 1):
            side_by_side[m].append(sum_of_products(rows, side_by_side[m - 1], size))
        shapes = sum([many * side_by_side[m][size] for m, many in enumerate(profile, start=LEAST_UNBROKEN)])
        ones = 1 if size == 1 else 0
        rises.append(sum_of_products(no_rises, rows, size))
        # There are as many falls as rises.
        rows.append(ones + 2 * rises[size] + shapes)
        no_rises.append(rows[size] - rises[size])
    return rises, side_by_side


def counts_by(profile, n):
    """How many rows of one to n numbers a class has by its shelf's profile."""
    refuse_size(n)
    side_by_side = worked_out(profile, n)[1]
    return side_by_side[1][1:]


def counts(shelf, n):
    """How many rows of one to n numbers the shelf's class has."""
    return counts_by(profile(shelf), n)


def tops(shelf, n):
    """How many rows of n numbers of the class have the tree one, a rise, a fall, and each row on the shelf on top."""
    refuse_size(n)
    rises, side_by_side = worked_out(profile(shelf), n)
    ones = 1 if n == 1 else 0
    return (ones, rises[n], rises[n], [side_by_side[len(row)][n] for row in shelf])
