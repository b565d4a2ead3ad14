"""Whole stretches of a row, and rows that are unbroken."""

from knotlessrows.rows import is_row

LEAST_UNBROKEN = 4


def whole_ends(row, begin):
    """The ends of all whole stretches of two places or more that begin at the place, rising."""
    ends = []
    least = greatest = row[begin]
    for place in range(begin + 1, len(row)):
        least = min(least, row[place])
        greatest = max(greatest, row[place])
        if greatest - least == place - begin:
            ends.append(place + 1)
    return ends


def whole_stretches(row):
    """All whole stretches of two places or more, sorted as tuples go."""
    return [(begin, end) for begin in range(len(row)) for end in whole_ends(row, begin)]


def is_unbroken(thing):
    """Whether a thing is an unbroken row: of four numbers or more, with no whole stretch but itself."""
    if not is_row(thing) or len(thing) < LEAST_UNBROKEN:
        return False
    if whole_ends(thing, 0) != [len(thing)]:
        return False
    return not any(whole_ends(thing, begin) for begin in range(1, len(thing)))
