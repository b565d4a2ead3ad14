"""What the desk's deeds make of the things that stand by names: each function tells the new thing."""

from knotlessrows.errors import NoShelf, NoText, TooMany
from knotlessrows.meets import joined, met, with_row, without_row
from knotlessrows.rows import aside, backward, is_row, put_in, taken_out, upside
from knotlessrows.shelves import is_shelf, shelf_aside, shelf_backward, shelf_of, shelf_upside
from knotlessrows.texts import EMPTY_SHELF, read_row, read_rows

MOST_KEPT = 16
MOST_TEXTS = 6
MOST_IN_SHELF = 10


def row_by(text):
    """The row that a text writes."""
    row = read_row(text)
    if len(row) > MOST_KEPT:
        raise TooMany("a desk keeps rows of at most sixteen numbers")
    return row


def shelf_by(text):
    """The shelf of the rows that a text writes."""
    rows = [] if text == EMPTY_SHELF else read_rows(text)
    if len(rows) > MOST_TEXTS:
        raise NoText("a shelf is told by at most six rows")
    if any([len(row) > MOST_IN_SHELF for row in rows]):
        raise TooMany("a shelf is told by rows of at most ten numbers")
    return shelf_of(rows)


def copied(thing):
    """The thing itself, which nothing ever changes."""
    return thing


def dropped(thing):
    """None: nothing stands by the name any more."""
    return None


def turned_back(thing):
    """The row, or the shelf, backward."""
    return backward(thing) if is_row(thing) else shelf_backward(thing)


def turned_over(thing):
    """The row, or the shelf, upside down."""
    return upside(thing) if is_row(thing) else shelf_upside(thing)


def turned_aside(thing):
    """The row, or the shelf, aside."""
    return aside(thing) if is_row(thing) else shelf_aside(thing)


def with_number(row, place, number):
    """The row with a number put in."""
    if len(row) >= MOST_KEPT:
        raise TooMany("a desk keeps rows of at most sixteen numbers")
    return put_in(row, place, number)


def without_number(row, place):
    """The row with a number taken out."""
    return taken_out(row, place)


def shelf_met(one, other):
    """The shelf in which two shelves meet."""
    return met(one, other)


def shelf_joined(one, other):
    """The shelf to which two shelves join."""
    return joined(one, other)


def put_on(shelf, row):
    """The shelf with the row put on it."""
    if row in shelf:
        raise NoShelf("the row stands there already")
    more = with_row(shelf, row)
    if not is_shelf(more):
        raise NoShelf("with the row it is no shelf")
    return more


def taken_off(shelf, row):
    """The shelf with the row taken off."""
    if row not in shelf:
        raise NoShelf("the row doesn't stand there")
    fewer = without_row(shelf, row)
    if not is_shelf(fewer):
        raise NoShelf("without the row it is no shelf")
    return fewer


# Each deed gives the first name in its row of words another thing.
DEEDS = {
    "row": row_by,
    "shelf": shelf_by,
    "copy": copied,
    "drop": dropped,
    "back": turned_back,
    "over": turned_over,
    "side": turned_aside,
    "put": with_number,
    "take": without_number,
    "met": shelf_met,
    "joined": shelf_joined,
    "add": put_on,
    "off": taken_off,
}
