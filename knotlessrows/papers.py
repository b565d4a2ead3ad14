"""Papers that tell of a row that it is of a class, or that it is barred."""

from knotlessrows.classes import said


def paper_of(shelf, row):
    """A paper that the row is of the shelf's class, or that it is barred."""
    kind, told = said(shelf, row)
    return ("of" if kind == "tree" else "barred", shelf, row, told)
