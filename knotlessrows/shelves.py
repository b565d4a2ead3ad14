"""Shelves: what they are, the shelf of some rows, and shelves turned."""

from knotlessrows.errors import NoShelf
from knotlessrows.rows import aside, backward, by_sizes, upside
from knotlessrows.stretches import is_unbroken
from knotlessrows.unbroken import unbroken_in

MOST_ROWS = 20
MOST_LONG = 7


def unbroken_in_all(rows):
    """The unbroken rows that stand in any of the rows, each once, in the order of sizes."""
    return by_sizes([shape for row in rows for shape in unbroken_in(row)])


def is_shelf(thing):
    """Whether a thing is a shelf."""
    if not isinstance(thing, tuple) or len(thing) > MOST_ROWS:
        return False
    if not all([is_unbroken(row) and len(row) <= MOST_LONG for row in thing]):
        return False
    # What stands in the rows, in order and each once, is just the rows themselves.
    return unbroken_in_all(thing) == list(thing)


def shelf_of(rows):
    """The shelf of all unbroken rows that stand in the rows."""
    found = unbroken_in_all(rows)
    if len(found) > MOST_ROWS:
        raise NoShelf("more unbroken rows stand in the rows than a shelf holds")
    if any([len(shape) > MOST_LONG for shape in found]):
        raise NoShelf("an unbroken row stands in the rows that is too long for a shelf")
    return tuple(found)


def shelf_backward(shelf):
    """The shelf with its rows backward."""
    return tuple(by_sizes([backward(row) for row in shelf]))


def shelf_upside(shelf):
    """The shelf with its rows upside down."""
    return tuple(by_sizes([upside(row) for row in shelf]))


def shelf_aside(shelf):
    """The shelf with its rows aside."""
    return tuple(by_sizes([aside(row) for row in shelf]))
