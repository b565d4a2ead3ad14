"""The looker: whether a paper is so, whoever wrote it."""

from knotlessrows.barred import is_least_barred
from knotlessrows.classes import is_of
from knotlessrows.rows import MOST_NUMBERS, are_places, is_row, shape_at, taken_out
from knotlessrows.shelves import MOST_ROWS, is_shelf
from knotlessrows.stretches import is_unbroken
from knotlessrows.trees import is_tree, tree_of


def are_kinds(shelf, row):
    """Whether the things are a shelf and a row."""
    return is_shelf(shelf) and is_row(row)


def is_list_to(thing, most):
    """Whether a thing is a list of one thing or more, at most so many."""
    return isinstance(thing, list) and 1 <= len(thing) <= most


def holds_of(shelf, row, tree):
    """Whether the tree is the row's and all its shapes are on the shelf."""
    if not are_kinds(shelf, row) or not is_tree(tree):
        return False
    return tree == tree_of(row) and is_of(shelf, row)


def holds_barred(shelf, row, places):
    """Whether at the places an unbroken row stands that isn't on the shelf."""
    if not are_kinds(shelf, row) or not are_places(row, places):
        return False
    shape = shape_at(row, places)
    return is_unbroken(shape) and shape not in shelf


def holds_least(shelf, row):
    """Whether the row is least barred by the shelf."""
    return are_kinds(shelf, row) and is_least_barred(shelf, row)


def is_step(below, above):
    """Whether a shelf has the rows of another one and just one more."""
    return len(above) == len(below) + 1 and all([row in above for row in below])


def holds_chain(shelves):
    """Whether the shelves are a list of one or more, each with just one row more than the one ahead."""
    # Each shelf of a chain has another number of rows, so there are no longer ones.
    if not is_list_to(shelves, MOST_ROWS + 1) or not all(is_shelf(shelf) for shelf in shelves):
        return False
    return all([is_step(below, above) for below, above in zip(shelves, shelves[1:])])


def comes_of(longer, row):
    """Whether a row comes of another one by one number put in."""
    if len(longer) != len(row) + 1:
        return False
    return any([taken_out(longer, place) == row for place in range(len(longer))])


def holds_grown(shelf, rows):
    """Whether the rows are a list of one or more of the class, each coming of the one ahead by one number put in."""
    if not is_shelf(shelf) or not is_list_to(rows, MOST_NUMBERS):
        return False
    if not all([is_row(row) for row in rows]) or not all(is_of(shelf, row) for row in rows):
        return False
    return all([comes_of(longer, row) for row, longer in zip(rows, rows[1:])])


def holds(thing):
    """Whether a thing is a paper that is so."""
    if not isinstance(thing, tuple):
        return False
    match thing:
        case ("of", shelf, row, tree):
            return holds_of(shelf, row, tree)
        case ("barred", shelf, row, places):
            return holds_barred(shelf, row, places)
        case ("least", shelf, row):
            return holds_least(shelf, row)
        case ("chain", shelves):
            return holds_chain(shelves)
        case ("grown", shelf, rows):
            return holds_grown(shelf, rows)
        case _:
            return False
