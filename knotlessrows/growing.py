"""Where a row of a class can grow, and all rows of a class that come so."""

from knotlessrows.classes import is_of
from knotlessrows.errors import NoRow, TooMany
from knotlessrows.rows import is_within, put_in

MOST_LISTED = 7


def refuse_barred(shelf, row):
    """Refuses a row that isn't of the shelf's class."""
    if not is_of(shelf, row):
        raise NoRow("the row is barred")


def openings(shelf, row):
    """All tuples (place, number) by which a number put in leads to a row of the class, sorted as tuples go."""
    refuse_barred(shelf, row)
    many = len(row) + 1
    pairs = [(place, number) for place in range(many) for number in range(1, many + 1)]
    return [(place, number) for place, number in pairs if is_of(shelf, put_in(row, place, number))]


def heads(shelf, row):
    """All places at which a new greatest number put in leads to a row of the class, rising."""
    refuse_barred(shelf, row)
    many = len(row) + 1
    return [place for place in range(many) if is_of(shelf, put_in(row, place, many))]


def longer_by_heads(shelf, rows):
    """All rows that come of the rows by a new greatest number put in at their heads."""
    return [put_in(row, place, len(row) + 1) for row in rows for place in heads(shelf, row)]


def all_rows(shelf, n):
    """All rows of n numbers of the class, n from 1 to 7, sorted as tuples go."""
    if not is_within(n, 1, MOST_LISTED):
        raise TooMany("all rows are told of one to seven numbers")
    rows = [(1,)]
    for size in range(1, n):
        # With its greatest number taken out a row of the class is of it still, so none is missed.
        rows = longer_by_heads(shelf, rows)
    return sorted(rows)
