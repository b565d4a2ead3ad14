"""Rows, trees and shelves as texts, written and read."""

from knotlessrows.errors import NoText
from knotlessrows.rows import is_row
from knotlessrows.shelves import is_shelf
from knotlessrows.trees import ONE, is_tree, parts_of

EMPTY_SHELF = "-"
BETWEEN_ROWS = ", "
# Forty, the greatest number in a row, has two figures.
MOST_FIGURES = 2


def in_figures(numbers):
    """The numbers in figures: a list of texts."""
    return [str(number) for number in numbers]


def show_row(row):
    """The text of a row: its numbers with a blank between two."""
    return " ".join(in_figures(row))


def show_tree(tree):
    """The text of a tree."""
    if tree == ONE:
        return "1"
    parts = [show_tree(part) for part in parts_of(tree)]
    if tree[0] == "rise":
        return "(" + " + ".join(parts) + ")"
    if tree[0] == "fall":
        return "(" + " - ".join(parts) + ")"
    return ".".join(in_figures(tree[1])) + "[" + " ".join(parts) + "]"


def show_rows(rows):
    """The texts of rows with a comma and a blank between two."""
    return ", ".join([show_row(row) for row in rows])


def show_shelf(shelf):
    """The text of a shelf."""
    return show_rows(shelf) if shelf else EMPTY_SHELF


def are_figures(text, most):
    """Whether a text writes a whole number by at most so many figures, without noughts ahead."""
    # How long it is comes first: Python itself bounds the figures that it reads.
    return len(text) <= most and text.isdecimal() and str(int(text)) == text


def read_numbers(text, between):
    """The numbers that a text writes in figures with a sign between two: a tuple."""
    words = text.split(between)
    if not all([are_figures(word, MOST_FIGURES) for word in words]):
        raise NoText("not just numbers in figures")
    return tuple([int(word) for word in words])


def refuse_no_text(thing):
    """Refuses a thing that is no text at all."""
    if not isinstance(thing, str):
        raise NoText("not a text")


def read_row(thing):
    """The row that a text writes."""
    refuse_no_text(thing)
    row = read_numbers(thing, " ")
    if not is_row(row):
        raise NoText("the numbers are no row")
    return row


def read_rows(text):
    """The rows whose texts stand in a text with a comma and a blank between two, one at least: a list."""
    return [read_row(part) for part in text.split(BETWEEN_ROWS)]


def read_shelf(thing):
    """The shelf that a text writes."""
    refuse_no_text(thing)
    if thing == EMPTY_SHELF:
        return ()
    shelf = tuple(read_rows(thing))
    if not is_shelf(shelf):
        raise NoText("the rows are no shelf")
    return shelf


def signs_of(text):
    """The brackets of a tree's text and what stands between blanks and brackets, in order."""
    for bracket in "()[]":
        text = text.replace(bracket, " " + bracket + " ")
    return text.split()


def taken_word(things):
    """The word that stands last among the things, which is taken away from them."""
    if not things or not isinstance(things[-1], str):
        raise NoText("no numbers stand ahead of a square bracket")
    return things.pop()


def close_bracket(opened, bracket):
    """Makes a tree of what stands in the innermost bracket, and puts it into the one around that."""
    if len(opened) < 2:
        raise NoText("a bracket is closed that wasn't opened")
    inner = opened.pop()
    if bracket == ")":
        head = "fall" if "-" in inner else "rise"
        opened[-1].append((head, tuple(inner[::2])))
    else:
        row = read_numbers(taken_word(opened[-1]), ".")
        opened[-1].append(("shape", row, tuple(inner)))


def built_tree(signs):
    """What a tree's signs make, perhaps no tree; of the signs of a tree's text just that tree."""
    # All brackets that are open, each with what stands in it so far. Brackets may be many within
    # one another, so no function goes into itself here.
    opened = [[]]
    for sign in signs:
        if sign in ("(", "["):
            opened.append([])
        elif sign in (")", "]"):
            close_bracket(opened, sign)
        else:
            opened[-1].append(ONE if sign == "1" else sign)
    if len(opened) != 1 or len(opened[0]) != 1:
        raise NoText("not one tree, or a bracket isn't closed")
    return opened[0][0]


def read_tree(thing):
    """The tree that a text writes."""
    refuse_no_text(thing)
    tree = built_tree(signs_of(thing))
    # Blanks, signs between parts and kinds of brackets weren't looked at: they are right where
    # the tree is written just so.
    if not is_tree(tree) or show_tree(tree) != thing:
        raise NoText("not the text of a tree")
    return tree
