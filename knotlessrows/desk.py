"""The desk, which keeps rows and shelves by names, and is told what to do and asked in words."""

from knotlessrows.deeds import DEEDS
from knotlessrows.errors import NoDeed, NoName
from knotlessrows.questions import NOTHING, QUESTIONS
from knotlessrows.rows import is_row
from knotlessrows.sayings import FORMS, words_of

DONE = "ok"


def kind_of(thing):
    """Of what kind a thing on the desk is."""
    return "row" if is_row(thing) else "shelf"


class Desk:
    """Rows and shelves by names, and what it takes to undo each deed."""

    def __init__(self):
        self.kept = {}
        # Of each deed that isn't undone: the name that it changed, and what stood by it ahead of that, or None.
        self.done = []

    def say(self, thing):
        """Does a deed or answers a question."""
        first, words = words_of(thing)
        if first == "undo":
            return self.undo_last()
        if first == "names":
            return " ".join(sorted(self.kept)) or NOTHING
        handed = self.handed_in(FORMS[first], words)
        if first in QUESTIONS:
            question = QUESTIONS[first]
            return question(*handed)
        deed = DEEDS[first]
        self.change(words[0], deed(*handed))
        return DONE

    def handed_in(self, form, words):
        """What the words of a form stand for, but for a new name: a list."""
        handed = []
        for kind, word in zip(form, words):
            if kind in ("number", "index"):
                handed.append(int(word))
            elif kind == "text":
                handed.append(word)
            elif kind != "new":
                handed.append(self.standing_by(word, kind))
        return handed

    def standing_by(self, name, kind):
        """What stands by a name, of this kind."""
        if name not in self.kept:
            raise NoName("nothing stands by this name")
        thing = self.kept[name]
        if kind not in ("any", kind_of(thing)):
            raise NoName("a thing of the other kind stands by this name")
        return thing

    def keep(self, name, thing):
        """Lets a thing stand by a name; with None nothing stands by it any more."""
        if thing is None:
            del self.kept[name]
        else:
            self.kept[name] = thing

    def change(self, name, thing):
        """Lets a thing, or with None nothing, stand by a name, so that it can be undone."""
        self.done.append((name, self.kept.get(name)))
        self.keep(name, thing)

    def undo_last(self):
        """Undoes the last deed that isn't undone yet."""
        if not self.done:
            raise NoDeed("no deed is left to undo")
        name, thing = self.done.pop()
        self.keep(name, thing)
        return DONE
