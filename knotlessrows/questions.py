"""What the desk answers to questions of the things that stand by names: texts."""

from knotlessrows.barred import first_barred, least_barred
from knotlessrows.classes import said
from knotlessrows.counts import counts
from knotlessrows.errors import TooMany
from knotlessrows.growing import heads
from knotlessrows.meets import least_between
from knotlessrows.numbering import number_of, row_at
from knotlessrows.rows import is_row
from knotlessrows.texts import in_figures, show_row, show_rows, show_shelf, show_tree
from knotlessrows.trees import tree_of

NOTHING = "-"
YES = "yes"
MOST_FOR_HEADS = 12


def text_of(thing):
    """The text of a row or a shelf."""
    return show_row(thing) if is_row(thing) else show_shelf(thing)


def tree_text(row):
    """The text of the row's tree."""
    return show_tree(tree_of(row))


def said_text(shelf, row):
    """Whether the row is of the class, or no and the places of a bar."""
    kind, told = said(shelf, row)
    if kind == "tree":
        return YES
    return " ".join(["no"] + in_figures(told))


def bars_text(shelf):
    """The texts of the least barred rows."""
    return show_rows(least_barred(shelf))


def first_text(shelf, row):
    """The text of a least barred row that stands in the row."""
    told = first_barred(shelf, row)
    return NOTHING if told is None else show_row(told[0])


def count_text(shelf, n):
    """How many rows of n numbers the class has."""
    return str(counts(shelf, n)[-1])


def at_text(shelf, n, number):
    """The text of the row of n numbers by its number."""
    return show_row(row_at(shelf, n, number))


def number_text(shelf, row):
    """The number of the row."""
    return str(number_of(shelf, row))


def heads_text(shelf, row):
    """The heads of the row."""
    if len(row) > MOST_FOR_HEADS:
        raise TooMany("heads are told of rows of at most twelve numbers")
    return " ".join(in_figures(heads(shelf, row))) or NOTHING


def within_text(one, other):
    """Whether the one shelf lies within the other, or the text of the least row between them."""
    row = least_between(one, other)
    return YES if row is None else show_row(row)


QUESTIONS = {
    "show": text_of,
    "tree": tree_text,
    "said": said_text,
    "bars": bars_text,
    "first": first_text,
    "count": count_text,
    "at": at_text,
    "number": number_text,
    "heads": heads_text,
    "within": within_text,
}
