"""The rows of words that a desk may be told, and how their words are written."""

from knotlessrows.errors import NoSaying
from knotlessrows.texts import are_figures

# Rows of words by their first words, and of what kinds the others are: a name by which a thing of
# some kind, or of any, must stand; a new name, by which nothing needs to stand yet; a number, as a
# place is one, too; an index; a text, which goes on to the end.
FORMS = {
    "row": ("new", "text"),
    "shelf": ("new", "text"),
    "copy": ("new", "any"),
    "drop": ("any",),
    "back": ("any",),
    "over": ("any",),
    "side": ("any",),
    "put": ("row", "number", "number"),
    "take": ("row", "number"),
    "met": ("new", "shelf", "shelf"),
    "joined": ("new", "shelf", "shelf"),
    "add": ("shelf", "row"),
    "off": ("shelf", "row"),
    "undo": (),
    "show": ("any",),
    "tree": ("row",),
    "said": ("shelf", "row"),
    "bars": ("shelf",),
    "first": ("shelf", "row"),
    "count": ("shelf", "number"),
    "at": ("shelf", "number", "index"),
    "number": ("shelf", "row"),
    "heads": ("shelf", "row"),
    "within": ("shelf", "shelf"),
    "names": (),
}

MOST_LETTERS = 8
NUMBER_FIGURES = 2
INDEX_FIGURES = 60


def is_name(word):
    """Whether a word is a name: one to eight letters a to z."""
    return 1 <= len(word) <= MOST_LETTERS and all([letter in "abcdefghijklmnopqrstuvwxyz" for letter in word])


def fits(kind, word):
    """Whether a word is written as one of its kind is."""
    if kind == "text":
        return word != ""
    if kind == "number":
        return are_figures(word, NUMBER_FIGURES)
    if kind == "index":
        return are_figures(word, INDEX_FIGURES)
    return is_name(word)


def words_of(thing):
    """The first word of a row of words, and a list of those behind it; a text at the end is one of these."""
    if not isinstance(thing, str):
        raise NoSaying("not a text")
    first, *others = thing.split(" ")
    if first not in FORMS:
        raise NoSaying("no row of words begins so")
    form = FORMS[first]
    if "text" in form:
        others = others[:1] + [" ".join(others[1:])]
    if len(others) != len(form):
        raise NoSaying("too few words, or too many")
    if not all([fits(kind, word) for kind, word in zip(form, others)]):
        raise NoSaying("a word is otherwise written")
    return first, others
