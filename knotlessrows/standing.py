"""Where a row stands in another one."""


def room(shape, row, places):
    """The least and the greatest number of the row that can be the shape's next one.

    The places hold the shape's first numbers. Between two numbers of the shape others
    may stand that must find their own in the row, so the row's numbers lie at least
    as far apart as the shape's do.
    """
    number = shape[len(places)]
    low = number
    high = len(row) - len(shape) + number
    for held, place in zip(shape, places):
        bound = row[place] + number - held
        if held < number:
            low = max(low, bound)
        else:
            high = min(high, bound)
    return low, high


def next_place(shape, row, places, begin):
    """The first place, from begin on, that can hold the shape's next number; None where none can."""
    low, high = room(shape, row, places)
    # The shape's later numbers need places of their own behind this one.
    end = len(row) - len(shape) + len(places) + 1
    for place in range(begin, end):
        if low <= row[place] <= high:
            return place
    return None


def stands(shape, row):
    """The first places, as tuples go, at which the shape stands in the row; None where it doesn't."""
    places = []
    begin = 0
    while len(places) < len(shape):
        place = next_place(shape, row, places, begin)
        if place is not None:
            places.append(place)
            begin = place + 1
        elif places:
            begin = places.pop() + 1
        else:
            return None
    return tuple(places)
