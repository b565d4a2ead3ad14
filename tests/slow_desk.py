"""A desk by the document's plainest words, to hold the program's against: it keeps all it ever was."""

import re

from knotlessrows import errors
from knotlessrows.barred import least_barred
from knotlessrows.classes import is_of
from knotlessrows.counts import counts
from knotlessrows.growing import heads
from knotlessrows.meets import joined, least_between, met
from knotlessrows.numbering import number_of, row_at
from knotlessrows.rows import aside, backward, is_row, put_in, shape_at, taken_out, upside
from knotlessrows.shelves import is_shelf, shelf_aside, shelf_backward, shelf_of, shelf_upside
from knotlessrows.standing import stands
from knotlessrows.stretches import is_unbroken
from knotlessrows.texts import show_tree
from knotlessrows.trees import tree_of
from tests.slow import in_order_of_sizes

NAME = "([a-z]{1,8})"
NUMBER = "(0|[1-9][0-9]?)"
INDEX = "(0|[1-9][0-9]{0,59})"
# Rows of words, with the kinds of things that must stand by their names; None where nothing needs to stand.
FORMS = [
    (f"row {NAME} (.+)", [None]), (f"shelf {NAME} (.+)", [None]), (f"copy {NAME} {NAME}", [None, "any"]),
    (f"drop {NAME}", ["any"]), (f"back {NAME}", ["any"]), (f"over {NAME}", ["any"]), (f"side {NAME}", ["any"]),
    (f"put {NAME} {NUMBER} {NUMBER}", ["row"]), (f"take {NAME} {NUMBER}", ["row"]),
    (f"met {NAME} {NAME} {NAME}", [None, "shelf", "shelf"]), (f"joined {NAME} {NAME} {NAME}", [None, "shelf", "shelf"]),
    (f"add {NAME} {NAME}", ["shelf", "row"]), (f"off {NAME} {NAME}", ["shelf", "row"]), ("undo", []),
    (f"show {NAME}", ["any"]), (f"tree {NAME}", ["row"]), (f"said {NAME} {NAME}", ["shelf", "row"]),
    (f"bars {NAME}", ["shelf"]), (f"first {NAME} {NAME}", ["shelf", "row"]), (f"count {NAME} {NUMBER}", ["shelf"]),
    (f"at {NAME} {NUMBER} {INDEX}", ["shelf"]), (f"number {NAME} {NAME}", ["shelf", "row"]),
    (f"heads {NAME} {NAME}", ["shelf", "row"]), (f"within {NAME} {NAME}", ["shelf", "shelf"]), ("names", []),
]


def text_of(thing):
    if is_row(thing):
        return " ".join(map(str, thing))
    return ", ".join(text_of(row) for row in thing) or "-"


def read_row(text):
    """The row that a text writes, or a refusal."""
    numbers = tuple(int(word) for word in text.split(" ") if re.fullmatch("[0-9]+", word))
    if not is_row(numbers) or text_of(numbers) != text:
        raise errors.NoText()
    return numbers


class SlowDesk:

    def __init__(self):
        self.states = [{}]

    def say(self, thing):
        first, words, kinds = self.matched(thing)
        texts = self.read(first, words)
        for word, kind in zip(words, kinds):
            if kind is not None:
                self.look(word, kind)
        self.too_many(first, words, texts)
        if first == "undo":
            if len(self.states) == 1:
                raise errors.NoDeed()
            self.states.pop()
            return "ok"
        return self.done(first, words, texts) or self.answered(first, words)

    def matched(self, thing):
        if isinstance(thing, str):
            for form, kinds in FORMS:
                found = re.fullmatch(form, thing)
                if found:
                    return form.split(" ")[0], found.groups(), kinds
        raise errors.NoSaying()

    def read(self, first, words):
        if first == "row":
            return [read_row(words[1])]
        if first == "shelf" and words[1] != "-":
            rows = [read_row(text) for text in words[1].split(", ")]
            if len(rows) > 6:
                raise errors.NoText()
            return rows
        return []

    def look(self, word, kind):
        thing = self.states[-1].get(word)
        if thing is None or kind not in ("any", "row" if is_row(thing) else "shelf"):
            raise errors.NoName()
        return thing

    def too_many(self, first, words, texts):
        most = {"row": 16, "shelf": 10, "put": 15, "heads": 12}.get(first)
        rows = texts
        if first in ("put", "heads"):
            rows = [self.states[-1][words[0] if first == "put" else words[1]]]
        if any(len(row) > most for row in rows):
            raise errors.TooMany()

    def done(self, first, words, texts):
        """Does a deed, if it is one."""
        kept = dict(self.states[-1])
        thing = kept.get(words[0]) if words else None
        last = kept.get(words[-1]) if words else None
        turns = {"back": (backward, shelf_backward), "over": (upside, shelf_upside), "side": (aside, shelf_aside)}
        if first == "row":
            kept[words[0]] = texts[0]
        elif first == "shelf":
            kept[words[0]] = shelf_of(texts)
        elif first == "copy":
            kept[words[0]] = last
        elif first == "drop":
            del kept[words[0]]
        elif first in turns:
            kept[words[0]] = turns[first][0 if is_row(thing) else 1](thing)
        elif first == "put":
            kept[words[0]] = put_in(thing, int(words[1]), int(words[2]))
        elif first == "take":
            kept[words[0]] = taken_out(thing, int(words[1]))
        elif first in ("met", "joined"):
            kept[words[0]] = (met if first == "met" else joined)(kept[words[1]], last)
        elif first in ("add", "off"):
            rows = set(thing) ^ {last}
            if (last in thing) != (first == "off") or not is_shelf(tuple(in_order_of_sizes(rows))):
                raise errors.NoShelf()
            kept[words[0]] = tuple(in_order_of_sizes(rows))
        else:
            return None
        self.states.append(kept)
        return "ok"

    def answered(self, first, words):
        """The answer to a question; where any of several is right, only a word that tells which kind is."""
        kept = self.states[-1]
        if first == "names":
            return " ".join(sorted(kept)) or "-"
        one, last = kept[words[0]], kept.get(words[-1])
        answers = {
            "show": lambda: text_of(one),
            "tree": lambda: show_tree(tree_of(one)),
            "said": lambda: "yes" if is_of(one, last) else "no",
            "bars": lambda: text_of(least_barred(one)),
            "first": lambda: "-" if is_of(one, last) else "bar",
            "count": lambda: str(counts(one, int(words[1]))[-1]),
            "at": lambda: text_of(row_at(one, int(words[1]), int(words[2]))),
            "number": lambda: str(number_of(one, last)),
            "heads": lambda: " ".join(map(str, heads(one, last))) or "-",
            "within": lambda: "yes" if least_between(one, last) is None else text_of(least_between(one, last)),
        }
        return answers[first]()

    def is_right(self, thing, told):
        """Whether what a desk told is right: all that may be told where any is."""
        due = self.say(thing)
        first, *words = thing.split(" ")
        if due not in ("no", "bar") or first not in ("said", "first"):
            return told == due
        shelf, row = [self.states[-1][word] for word in words]
        if first == "first":
            barred = read_row(told)
            return barred in least_barred(shelf) and stands(barred, row) is not None
        word, *places = told.split(" ")
        shape = shape_at(row, tuple(map(int, places)))
        return word == "no" and is_unbroken(shape) and shape not in shelf
