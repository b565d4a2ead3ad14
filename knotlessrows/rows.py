"""Rows: what they are, how they are turned, the shapes in them, numbers put in and taken out."""

from knotlessrows.errors import NoPlaces

MOST_NUMBERS = 40


def is_whole(thing):
    """Whether a thing is a whole number: an int that is no truth."""
    return isinstance(thing, int) and not isinstance(thing, bool)


def is_within(thing, least, most):
    """Whether a thing is a whole number from least to most."""
    return is_whole(thing) and least <= thing <= most


def is_row(thing):
    """Whether a thing is a row: a tuple of the numbers from 1 to n, each once, n from 1 to forty."""
    if not isinstance(thing, tuple) or not 1 <= len(thing) <= MOST_NUMBERS:
        return False
    # Kinds come first: True equals 1, and things of several kinds can't be sorted.
    if not all([is_whole(number) for number in thing]):
        return False
    return sorted(thing) == list(range(1, len(thing) + 1))


def backward(row):
    """The row with its numbers from the last to the first."""
    return row[::-1]


def upside(row):
    """The row upside down: n + 1 less each number."""
    return tuple([len(row) + 1 - number for number in row])


def aside(row):
    """The row aside: at the place k - 1 how many places there are up to the number k."""
    turned = [0] * len(row)
    for place, number in enumerate(row):
        turned[number - 1] = place + 1
    return tuple(turned)


def are_places(row, thing):
    """Whether a thing is a rising tuple of places of the row, one at least."""
    if not isinstance(thing, tuple) or not thing:
        return False
    if not all([is_within(place, 0, len(row) - 1) for place in thing]):
        return False
    return all([left < right for left, right in zip(thing, thing[1:])])


def shape_at(row, places):
    """The row of numbers that stand to one another as the row's numbers do at the places."""
    if not are_places(row, places):
        raise NoPlaces("not a rising tuple of places of the row, one at least")
    numbers = [row[place] for place in places]
    ranks = {number: rank for rank, number in enumerate(sorted(numbers), start=1)}
    return tuple([ranks[number] for number in numbers])


def put_in(row, place, number):
    """The row with a number put in, which stands at the place then."""
    size = len(row)
    if size >= MOST_NUMBERS:
        raise NoPlaces("the row is full")
    if not is_within(place, 0, size) or not is_within(number, 1, size + 1):
        raise NoPlaces("no place, or no number, to be put in")
    moved = tuple([other + 1 if other >= number else other for other in row])
    return moved[:place] + (number,) + moved[place:]


def taken_out(row, place):
    """The shape at all places of the row but one."""
    if len(row) < 2:
        raise NoPlaces("a row of one number has none to be taken out")
    if not is_within(place, 0, len(row) - 1):
        raise NoPlaces("no place of the row")
    return shape_at(row, tuple([other for other in range(len(row)) if other != place]))


def by_sizes(rows):
    """The rows, each once, in the order of sizes: a new list."""
    return [row for size, row in sorted({(len(row), row) for row in rows})]
