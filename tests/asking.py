"""How the tests ask again: [2] holds of every function, so each module's tests mix this in."""

import copy

from tests.refusing import Refusing


def lists_in(thing):
    """All lists in a thing, itself too where it is one."""
    if isinstance(thing, list):
        yield thing
    if isinstance(thing, (list, tuple)):
        for part in list(thing):
            yield from lists_in(part)


def lengthen(told):
    told.append((1, 2))


def empty(told):
    told.clear()


def turn_about(told):
    told.reverse()


def overwrite(told):
    told[:] = [None] * (len(told) + 1)


class Asking(Refusing):
    """Mixed into test cases. Answers are compared as they are written, so True is not taken for 1."""

    # Each a function, then what is handed in.
    QUESTIONS = []
    # Each the class of the refusal, then a function, then what is handed in.
    REFUSED = []

    def told(self):
        return [repr(function(*handed)) for function, *handed in self.QUESTIONS]

    def test_there_are_questions(self):
        self.assertTrue(self.QUESTIONS)

    def test_behind_others_alike(self):
        first = self.told()
        for function, *handed in reversed(self.QUESTIONS):
            function(*handed)
        self.assertEqual(self.told(), first)

    def test_behind_refused_ones_alike(self):
        first = self.told()
        for error, function, *handed in self.REFUSED:
            for _ in range(2):
                self.assert_refused(error, function, *handed)
            self.assertEqual(self.told(), first)

    def test_told_lists_are_the_askers_own(self):
        for function, *handed in self.QUESTIONS:
            kept = function(*handed)
            due = repr(kept)
            for change in (lengthen, empty, turn_about, overwrite):
                told = function(*handed)
                for within in list(lists_in(told)):
                    change(within)
                self.assertEqual(repr(function(*handed)), due, function.__name__)
                self.assertEqual(repr(kept), due, function.__name__)

    def test_what_is_handed_in_stays(self):
        asked = self.QUESTIONS + [refused[1:] for refused in self.REFUSED]
        for function, *handed in asked:
            before = repr(handed)
            try:
                told = function(*handed)
            except ValueError:
                told = None
            self.assertEqual(repr(handed), before, function.__name__)
            for within in list(lists_in(told)):
                overwrite(within)
            self.assertEqual(repr(handed), before, function.__name__)

    def test_what_is_done_behind_the_call_changes_nothing(self):
        for function, *handed in self.QUESTIONS:
            once = copy.deepcopy(handed)
            told = function(*once)
            due = repr(told)
            for within in list(lists_in(once)):
                overwrite(within)
            self.assertEqual(repr(told), due, function.__name__)
            self.assertEqual(repr(function(*handed)), due, function.__name__)
