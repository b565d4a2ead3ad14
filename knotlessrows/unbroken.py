"""Unbroken rows: all of a size, those that stand in a row, and those that a row grows to."""

from knotlessrows.errors import TooMany
from knotlessrows.rows import backward, by_sizes, is_within, put_in, shape_at
from knotlessrows.stretches import LEAST_UNBROKEN, is_unbroken, whole_ends
from knotlessrows.trees import shapes_in, tree_of

MOST_TOLD = 7


def longer_by_one(begun, n):
    """The first numbers of rows of n numbers, each with one of the other numbers behind them."""
    return [ahead + (number,) for ahead in begun for number in range(1, n + 1) if number not in ahead]


def ends_whole(numbers, n):
    """Whether a whole stretch, but one of n places, ends with the last of these numbers."""
    return any([size < n for size in whole_ends(backward(numbers), 0)])


def unbroken_rows(n):
    """All unbroken rows of n numbers, n from 4 to 7, sorted as tuples go."""
    if not is_within(n, LEAST_UNBROKEN, MOST_TOLD):
        raise TooMany("unbroken rows are told of four to seven numbers")
    begun = [()]
    for size in range(n):
        # Whatever comes behind, a whole stretch stays one: so rows with one are left early.
        begun = [numbers for numbers in longer_by_one(begun, n) if not ends_whole(numbers, n)]
    return begun


def all_places(many):
    """All rising tuples of some of the first places, each place once, perhaps none."""
    chosen = [()]
    for place in range(many):
        chosen = chosen + [places + (place,) for places in chosen]
    return chosen


def shapes_within(row):
    """The shapes of four numbers or more that stand in a row, each once."""
    return sorted({shape_at(row, places) for places in all_places(len(row)) if len(places) >= LEAST_UNBROKEN})


def unbroken_in(row):
    """The unbroken rows that stand in a row, each once, in the order of sizes."""
    # An unbroken row stands in a row only where it stands in a shape of the row's tree.
    tops = shapes_in(tree_of(row))
    return by_sizes([shape for top in tops for shape in shapes_within(top) if is_unbroken(shape)])


def grown(row):
    """The unbroken rows that come of an unbroken row by one number put in, each once, sorted as tuples go."""
    many = len(row) + 1
    longer = [put_in(row, place, number) for place in range(many) for number in range(1, many + 1)]
    return sorted({other for other in longer if is_unbroken(other)})
