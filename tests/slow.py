"""Slow answers, by the document's plainest words, to hold those of the program against."""

import functools
import itertools

ONE = ("one",)


def rows_of(size):
    return itertools.permutations(range(1, size + 1))


def rows_to(most):
    for size in range(1, most + 1):
        yield from rows_of(size)


def shape_of(numbers):
    """Each number told by how many are not greater."""
    return tuple(sum(1 for other in numbers if other <= number) for number in numbers)


def shapes_standing_in(row):
    """All rows that stand in a row."""
    return {shape_of(chosen) for size in range(1, len(row) + 1) for chosen in itertools.combinations(row, size)}


def in_order_of_sizes(rows):
    return sorted(set(rows), key=lambda row: (len(row), row))


def whole(row):
    """All whole stretches of two places or more."""
    stretches = itertools.combinations(range(len(row) + 1), 2)
    return [(begin, end) for begin, end in stretches
            if end - begin > 1 and max(row[begin:end]) - min(row[begin:end]) == end - begin - 1]


def unbroken(row):
    return len(row) >= 4 and whole(row) == [(0, len(row))]


def unbroken_standing_in(row):
    return in_order_of_sizes(shape for shape in shapes_standing_in(row) if unbroken(shape))


def leaves(tree, way=()):
    """The ways down to all ones: at each node its index among the parts, in order."""
    if tree == ONE:
        return [way]
    return [leaf for at, part in enumerate(tree[-1]) for leaf in leaves(part, way + (at,))]


def row_by_leaves(tree):
    """The row of a tree: any two of its numbers stand to one another as the node where their ways part tells."""
    def compared(left, right):
        if left == right:
            return 0
        node = tree
        for one, other in zip(left, right):
            if one != other:
                break
            node = node[-1][one]
        if node[0] == "rise":
            return one - other
        if node[0] == "fall":
            return other - one
        return node[1][one] - node[1][other]

    ways = leaves(tree)
    ranked = sorted(ways, key=functools.cmp_to_key(compared))
    return tuple(ranked.index(way) + 1 for way in ways)


def sizes_in_order(many, total):
    """All ways to tell so many sizes in order, each from 1 on, that come to the total together."""
    if many == 1:
        return [(total,)] if total > 0 else []
    return [(first,) + rest for first in range(1, total) for rest in sizes_in_order(many - 1, total - first)]


@functools.lru_cache(maxsize=None)
def trees_with(size):
    """All trees of so many numbers."""
    if size == 1:
        return (ONE,)
    found = []
    for many in range(2, size + 1):
        shapes = [row for row in rows_of(many) if unbroken(row)]
        for sizes in sizes_in_order(many, size):
            for parts in itertools.product(*[trees_with(part) for part in sizes]):
                for head in ("rise", "fall"):
                    if all(part[0] != head for part in parts):
                        found.append((head, parts))
                found.extend(("shape", row, parts) for row in shapes)
    return tuple(found)


@functools.lru_cache(maxsize=None)
def unbroken_within(row):
    """The unbroken rows that stand in a row, as a set: those of all rows with one number taken out, and it too."""
    own = {row} if unbroken(row) else set()
    if len(row) <= 4:
        return frozenset(own)
    shorter = {shape_of(row[:place] + row[place + 1:]) for place in range(len(row))}
    return frozenset(own.union(*[unbroken_within(other) for other in shorter]))


def of_class(shelf, row):
    """Whether no unbroken row stands in the row that isn't on the shelf."""
    return unbroken_within(row) <= set(shelf)


def closed(rows):
    """The rows and all unbroken ones that stand in them, in the order of sizes: a tuple."""
    return tuple(in_order_of_sizes(shape for row in rows for shape in unbroken_within(row)))
