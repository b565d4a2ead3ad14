"""Things of every kind that the document calls any thing, for the tests to hand in."""

BIG = 10 ** 60 - 1

FORTY = tuple(range(1, 41))
# An unbroken row of forty numbers.
ZIGZAG_FORTY = tuple(range(2, 41, 2)) + tuple(range(1, 40, 2))
# No two neighbours in worth stand side by side.
MIXED_FORTY = tuple((7 * place) % 41 for place in range(1, 41))


def nested(kind, depth):
    """A list or a tuple with others within one another, so deep."""
    thing = kind()
    for _ in range(depth - 1):
        thing = kind([thing])
    return thing


def no_wholes():
    """Things that are no whole numbers."""
    return [
        None, True, False, "", "0", "1", "(1,)", "a" * 600, "(" * 150, " ~",
        [], [0], [1], (), (0,), (1,), ((),), ([],), (None,), [[1], (2, "3")],
        nested(list, 90), nested(tuple, 90), [0] * 5000, tuple(range(5000)),
    ]


def no_tuples():
    """Things that are no tuples."""
    return [thing for thing in no_wholes() if not isinstance(thing, tuple)] + [
        0, 1, -1, 2, 40, BIG, -BIG, [0, 1], [1, 2], [2, 4, 1, 3], [(1, 2)],
    ]


def tuples_of_others():
    """Tuples with things in them that are no whole numbers."""
    alone = [(thing,) for thing in no_wholes()]
    behind = [(0, thing) for thing in no_wholes()]
    ahead = [(thing, 1) for thing in no_wholes()]
    return alone + behind + ahead


def any_things():
    """Things of every kind, none of them a row, a tree or a shelf."""
    return no_tuples() + tuples_of_others() + [
        ((1, 2),), ((1,), (2,)), ((), ()), ("",), (None, None), (True, True), ("1", "2"),
        nested(tuple, 89) + (1,), (nested(list, 89),), ((),) * 5000, ("one",) * 5000, (("one",),) * 5000,
    ]
