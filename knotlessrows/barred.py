"""The rows that a shelf bars while it bars none that stands in them."""

from knotlessrows.classes import is_of, said
from knotlessrows.rows import aside, backward, by_sizes, shape_at, taken_out
from knotlessrows.unbroken import grown


def is_least_barred(shelf, row):
    """Whether a row is barred, and each row that comes of it by one number taken out is of the class."""
    if is_of(shelf, row):
        return False
    return all(is_of(shelf, taken_out(row, place)) for place in range(len(row)))


def zigzags(many):
    """The zigzags of twice so many numbers: 2, 4, and so on, then 1, 3, and so on; and that row turned."""
    row = tuple(range(2, 2 * many + 1, 2)) + tuple(range(1, 2 * many, 2))
    return [row, backward(row), aside(row), backward(aside(row))]


def perhaps_least_barred(shelf):
    """Rows among which all least barred ones are, each once, in the order of sizes."""
    # An unbroken row of more than four numbers in which no unbroken one of one number fewer stands
    # is a zigzag, and then one of two numbers fewer stands in it. Both rows of four are zigzags, too:
    # so that () leads to them, its longest row is taken to have two numbers.
    longest = max([len(row) for row in shelf], default=2)
    found = [zigzag for many in range(2, longest // 2 + 2) for zigzag in zigzags(many)]
    return by_sizes(found + [longer for row in shelf for longer in grown(row)])


def least_barred(shelf):
    """All least barred rows of a shelf, in the order of sizes."""
    return [row for row in perhaps_least_barred(shelf) if is_least_barred(shelf, row)]


def first_barred(shelf, row):
    """A least barred row and places at which it stands in the row; None where the row is of the class."""
    kind, told = said(shelf, row)
    if kind == "tree":
        return None
    # What stands in a row of the class is of it too: so a place that couldn't be left out can't be later either.
    kept = told
    for place in told:
        left = tuple([other for other in kept if other != place])
        if not is_of(shelf, shape_at(row, left)):
            kept = left
    return (shape_at(row, kept), kept)
