"""How two shelves meet, join and lie within one another, and the shelves next to a shelf."""

from knotlessrows.barred import least_barred
from knotlessrows.errors import NoChain, NoShelf
from knotlessrows.rows import by_sizes
from knotlessrows.shelves import MOST_LONG, MOST_ROWS
from knotlessrows.standing import stands


def only_on(one, other):
    """The rows that are on the one shelf and not on the other one, in the order of sizes."""
    return [row for row in one if row not in other]


def with_row(shelf, row):
    """The rows of a shelf and one more, in the order of sizes: a tuple."""
    return tuple(by_sizes(shelf + (row,)))


def without_row(shelf, row):
    """The rows of a shelf but one: a tuple."""
    return tuple([other for other in shelf if other != row])


def met(one, other):
    """The shelf of the rows on both shelves."""
    return tuple([row for row in one if row in other])


def joined(one, other):
    """The shelf of the rows on either shelf."""
    rows = by_sizes(one + other)
    if len(rows) > MOST_ROWS:
        raise NoShelf("more rows are on either shelf than a shelf holds")
    return tuple(rows)


def least_between(one, other):
    """The first row, in the order of sizes, that is of the one's class and not of the other's; None where none is."""
    # In such a row a row stands that is only on the one shelf, and this is such a row itself.
    rows = only_on(one, other)
    return rows[0] if rows else None


def chain(one, other):
    """Shelves from the one to the other, each with just one row more than the one ahead."""
    if only_on(one, other):
        raise NoChain("a row of the one shelf isn't on the other one")
    shelves = [one]
    # Whatever unbroken row stands in another one is shorter, so in this order each step is a shelf.
    for row in only_on(other, one):
        shelves.append(with_row(shelves[-1], row))
    return shelves


def just_above(shelf):
    """All shelves that have the shelf's rows and one more, sorted as tuples go."""
    if len(shelf) >= MOST_ROWS:
        return []
    return sorted([with_row(shelf, row) for row in least_barred(shelf) if len(row) <= MOST_LONG])


def stands_in_others(shelf, row):
    """Whether a row stands in another one of the shelf."""
    return any([stands(row, other) is not None for other in shelf if other != row])


def just_below(shelf):
    """All shelves that have the shelf's rows but one, sorted as tuples go."""
    return sorted([without_row(shelf, row) for row in shelf if not stands_in_others(shelf, row)])
