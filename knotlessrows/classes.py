"""The class of a shelf: whether a row is of it, and what tells so."""

from knotlessrows.trees import nodes_in, parts_of, shapes_in, tree_of


def is_of(shelf, row):
    """Whether a row is of the shelf's class: all shapes of its tree are on the shelf."""
    return all([shape in shelf for shape in shapes_in(tree_of(row))])


def size_of(tree):
    """How many numbers a tree has."""
    return len([node for node in nodes_in(tree) if node[0] == "one"])


def begins_of(tree, begin):
    """The place at which each part of a tree begins, where the tree itself begins at a place."""
    begins = []
    for part in parts_of(tree):
        begins.append(begin)
        begin += size_of(part)
    return tuple(begins)


def bar_in(shelf, tree):
    """Places, one in each part of a shape that isn't on the shelf; None where there is no such shape."""
    ahead = [(tree, 0)]
    while ahead:
        node, begin = ahead.pop()
        begins = begins_of(node, begin)
        if node[0] == "shape" and node[1] not in shelf:
            return begins
        ahead.extend(list(zip(parts_of(node), begins)))
    return None


def said(shelf, row):
    """("tree", tree) of a row of the class; else ("bar", places), at which an unbroken row stands not on the shelf."""
    tree = tree_of(row)
    places = bar_in(shelf, tree)
    return ("tree", tree) if places is None else ("bar", places)
