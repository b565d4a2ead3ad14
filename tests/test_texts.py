"""[22]: rows, trees and shelves as texts."""

import unittest

from knotlessrows.errors import NoText
from knotlessrows.shelves import is_shelf
from knotlessrows.texts import read_row, read_shelf, read_tree, show_row, show_shelf, show_tree
from knotlessrows.trees import is_tree, tree_of
from tests.asking import Asking
from tests.refusing import Refusing
from tests.slow import closed, rows_to, trees_with
from tests.some_shelves import FOUR, OTHER_FOUR, SHELVES, SIXES, TO_FIVE, TWENTY, TWENTY_ONE
from tests.things import BIG, FORTY, MIXED_FORTY, ZIGZAG_FORTY, any_things

ONE = ("one",)
RISE = ("rise", (ONE, ONE))
FALL = ("fall", (ONE, ONE))
TREE = ("shape", FOUR, (ONE, ONE, RISE, ONE))
BOTH = (FOUR, OTHER_FOUR)
SIGNS = " 0123456789.,+-()[]a~"


def deep_tree(size):
    """A tree of so many numbers, as many brackets open at once as there can be."""
    tree = ONE
    for at in range(size - 1):
        tree = ("rise" if at & 1 else "fall", (ONE, tree))
    return tree


def slow_text(tree):
    """The text of a tree by the document's words."""
    if tree == ONE:
        return "1"
    between = {"rise": " + ", "fall": " - ", "shape": " "}[tree[0]]
    inner = between.join(slow_text(part) for part in tree[-1])
    if tree[0] == "shape":
        return ".".join(str(number) for number in tree[1]) + "[" + inner + "]"
    return "(" + inner + ")"


def otherwise(text):
    """The text with one sign left out, put in, or turned into another one, and with two neighbours changed about."""
    for at in range(len(text) + 1):
        for sign in SIGNS:
            yield text[:at] + sign + text[at:]
            if at < len(text):
                yield text[:at] + sign + text[at + 1:]
        if at < len(text):
            yield text[:at] + text[at + 1:]
            yield text[:at] + text[at + 1:at + 2] + text[at:at + 1] + text[at + 2:]


class Reading(Refusing):
    """Mixed into test cases."""

    def assert_both(self, show, read, thing, text):
        self.assertEqual(show(thing), text)
        self.assertIs(type(show(thing)), str)
        self.assertEqual(repr(read(text)), repr(thing))

    def assert_none(self, read, texts):
        for text in texts:
            self.assert_refused(NoText, read, text)

    def assert_any_things_refused(self, read):
        # As the row and the tree of one number are, "1" is among these things.
        self.assert_none(read, [thing for thing in any_things() if thing != "1"])
        self.assert_none(read, [None, True, False, 0, 1, BIG, [], (), ("1",), ["1"], (1,), ONE, FOUR, BOTH, TREE])

    def assert_just_such(self, read, text, due):
        """The text is read just where it is due; then as that."""
        if text in due:
            self.assertEqual(read(text), due[text], text)
        else:
            self.assert_refused(NoText, read, text)


class RowTextTest(Reading, unittest.TestCase):

    def test_examples(self):
        self.assert_both(show_row, read_row, (1,), "1")
        self.assert_both(show_row, read_row, FOUR, "2 4 1 3")
        self.assert_both(show_row, read_row, tuple(range(10, 0, -1)), "10 9 8 7 6 5 4 3 2 1")

    def test_all_small_rows(self):
        for row in rows_to(6):
            self.assert_both(show_row, read_row, row, " ".join(map(str, row)))

    def test_rows_of_forty(self):
        for row in (FORTY, FORTY[::-1], ZIGZAG_FORTY, MIXED_FORTY):
            self.assert_both(show_row, read_row, row, " ".join(map(str, row)))

    def test_other_texts(self):
        self.assert_none(read_row, [
            "", " ", "  ", "0", "2", "-1", "+1", "01", "1 ", " 1", "1  2", "1 2 ", " 1 2", "1 02", "01 2", "1 +2",
            "1 1", "1 3", "0 1", "1,2", "1, 2", "1.2", "12", "(1)", "1 2 3 4 6", "one", "1 two", "1_0", "1 2 _",
            "1\t2", "1\n", "-", "1 2 -3", "1e0", "1 2 3.0", "0x1", "1" * 600, "9" * 600, " " * 600, "1 " * 300,
            "~", "1 2~", "(" * 150, "00 1", "1 2 3 004", "1 2 3 4 5 6 7 8 9 010"])

    def test_forty_one_numbers(self):
        self.assert_none(read_row, [" ".join(map(str, range(1, many + 1))) for many in (41, 42, 60, 99, 100)])

    def test_texts_with_one_sign_otherwise(self):
        due = {" ".join(map(str, row)): row for row in rows_to(5)}
        for text in ("1", "1 2", "2 1", "3 1 2", "2 4 1 3"):
            for other in otherwise(text):
                self.assert_just_such(read_row, other, due)

    def test_any_things(self):
        self.assert_any_things_refused(read_row)


class TreeTextTest(Reading, unittest.TestCase):

    def test_examples(self):
        self.assert_both(show_tree, read_tree, ONE, "1")
        self.assert_both(show_tree, read_tree, RISE, "(1 + 1)")
        self.assert_both(show_tree, read_tree, FALL, "(1 - 1)")
        self.assert_both(show_tree, read_tree, TREE, "2.4.1.3[1 1 (1 + 1) 1]")
        self.assert_both(show_tree, read_tree, ("rise", (FALL, ONE, FALL)), "((1 - 1) + 1 + (1 - 1))")
        zigzag = tuple(range(2, 13, 2)) + tuple(range(1, 12, 2))
        self.assert_both(show_tree, read_tree, ("shape", zigzag, (ONE,) * 12),
                         "2.4.6.8.10.12.1.3.5.7.9.11[1 1 1 1 1 1 1 1 1 1 1 1]")

    def test_all_small_trees(self):
        for size in range(1, 7):
            for tree in trees_with(size):
                self.assert_both(show_tree, read_tree, tree, slow_text(tree))

    def test_each_tree_has_its_own_text(self):
        texts = [show_tree(tree) for size in range(1, 7) for tree in trees_with(size)]
        self.assertEqual(len(texts), len(set(texts)))

    def test_trees_of_forty(self):
        nested_shapes = ONE
        for at in range(13):
            parts = [ONE] * 4
            parts[at % 4] = nested_shapes
            nested_shapes = ("shape", BOTH[at % 2], tuple(parts))
        for tree in [deep_tree(40), deep_tree(39), ("rise", (ONE,) * 40), ("fall", (ONE,) * 40), nested_shapes,
                     tree_of(ZIGZAG_FORTY), tree_of(MIXED_FORTY)]:
            self.assertIs(is_tree(tree), True)
            self.assert_both(show_tree, read_tree, tree, slow_text(tree))

    def test_forty_one_numbers(self):
        self.assert_none(read_tree, [slow_text(tree) for tree in [
            deep_tree(41), deep_tree(90), ("rise", (ONE,) * 41), ("fall", (ONE,) * 60),
            ("shape", FOUR, (("rise", (ONE,) * 38), ONE, ONE, ONE)),
            ("rise", (("fall", (ONE,) * 20), ("fall", (ONE,) * 21)))]])

    def test_no_trees(self):
        self.assert_none(read_tree, [slow_text(thing) for thing in [
            ("rise", (ONE,)), ("rise", ()), ("fall", (ONE,)), ("rise", (RISE, ONE)), ("rise", (ONE, RISE)),
            ("fall", (FALL, ONE)), ("fall", (ONE, ("rise", (ONE, RISE)))), ("shape", FOUR, (ONE,) * 3),
            ("shape", FOUR, (ONE,) * 5), ("shape", FOUR, ()), ("shape", (1,), (ONE,)), ("shape", (2, 1), (ONE, ONE)),
            ("shape", (1, 2, 3, 4), (ONE,) * 4), ("shape", (2, 1, 4, 3), (ONE,) * 4),
            ("shape", (2, 4, 1, 3, 5), (ONE,) * 5), ("shape", (2, 4, 1, 4), (ONE,) * 4),
            ("shape", (0, 4, 1, 3), (ONE,) * 4), ("shape", (2, 5, 1, 3), (ONE,) * 4),
            ("shape", (2, 4, 1, -3), (ONE,) * 4), ("shape", FOUR, (ONE, ONE, ("rise", (RISE, ONE)), ONE))]])

    def test_other_texts(self):
        self.assert_none(read_tree, [
            "", " ", "-", "+", "2", "0", "01", " 1", "1 ", "1 1", "1 + 1", "1 - 1", "one", "()", "[]", "(", ")", "[",
            "]", "(1)", "((1))", "(1 + 1", "1 + 1)", "(1 + 1))", "((1 + 1)", "(1+1)", "(1 +1)", "(1+ 1)", "(1  + 1)",
            "( 1 + 1)", "(1 + 1 )", " (1 + 1)", "(1 + 1) ", "(1 1)", "(1 + )", "( + 1)", "(+)", "(1 + + 1)",
            "(1 + 1 - 1)", "(1 - 1 + 1)", "(1 + 1 1)", "(1 + 1 +)", "[1 + 1]", "(1 * 1)", "(1 + 2)", "(1 + 1](",
            "(1 + 1]", "(1, 1)", "2.4.1.3", "2.4.1.3[]", "2.4.1.3[1 1 1]", "2.4.1.3[1 1 1 1 1]", "2.4.1.3 [1 1 1 1]",
            "2.4.1.3[1 1 1 1", "2.4.1.3[1 1 1 1]]", "2.4.1.3[1 1 1 1)", "2.4.1.3(1 1 1 1)", "2.4.1.3(1 1 1 1]",
            "2.4.1.3[ 1 1 1 1]", "2.4.1.3[1 1 1 1 ]", "2.4.1.3[1  1 1 1]", "2.4.1.3[1,1,1,1]", "2.4.1.3[1 + 1 + 1 + 1]",
            "2 4 1 3[1 1 1 1]", "2.4.1.03[1 1 1 1]", "02.4.1.3[1 1 1 1]", "2.4.1.+3[1 1 1 1]", ".2.4.1.3[1 1 1 1]",
            "2.4.1.3.[1 1 1 1]", "2..4.1.3[1 1 1 1]", "2,4,1,3[1 1 1 1]", "[1 1 1 1]", "1[1]", "1[1 1]", "+[1 1]",
            "a[1 1 1 1]", "(2.4.1.3[1 1 1 1])", "(1 + 2.4.1.3)", "(2.4.1.3 + 1)", "2.4.1.3[2.4.1.3 1 1 1]",
            "2.4.1.3[1 1 1 1]2.4.1.3[1 1 1 1]", "2.4.1.3[1 1 1 1] ", "((1 + 1) + 1)", "(1 + (1 + 1))", "(1 - (1 - 1))",
            "1.2.3.4[1 1 1 1]", "2.4.1.3[1 1 ((1 + 1) + 1) 1]", "1\n", "(1\t+ 1)", "1)(", "](", ")(", "1(1 + 1)",
            "(1 + 1)(1 + 1)", "(1 + 1)1", "one()", "(1 + one)", "(1 + '1')"])

    def test_many_brackets(self):
        self.assert_none(read_tree, [
            "(" * 150, "[" * 150, "([" * 75, ")" * 150, "]" * 150, "(" * 150 + "1" + ")" * 150, "(" * 600, ")" * 600,
            "(1 + " * 100 + "1" + ")" * 100, "(1 - (1 + " * 50 + "1" + ")" * 100, "(1 - (1 + " * 50 + "1",
            "2.4.1.3[" * 70, "2.4.1.3[1 1 1 " * 40 + "1", "1" + ")" * 150, "(1 + (1 - " * 19 + "1" + ")" * 37,
            "(1 + (1 - " * 19 + "1" + ")" * 39])

    def test_texts_with_one_sign_otherwise(self):
        due = {slow_text(tree): tree for size in range(1, 6) for tree in trees_with(size)}
        for text in ("1", "(1 + 1)", "(1 - (1 + 1))", "2.4.1.3[1 1 1 1]", "2.4.1.3[1 1 (1 + 1) 1]", "(1 + 1 + (1 - 1))"):
            for other in otherwise(text):
                self.assert_just_such(read_tree, other, due)

    def test_any_things(self):
        self.assert_any_things_refused(read_tree)


class ShelfTextTest(Reading, unittest.TestCase):

    def test_examples(self):
        self.assert_both(show_shelf, read_shelf, (), "-")
        self.assert_both(show_shelf, read_shelf, (FOUR,), "2 4 1 3")
        self.assert_both(show_shelf, read_shelf, BOTH, "2 4 1 3, 3 1 4 2")
        self.assert_both(show_shelf, read_shelf, closed([(2, 4, 6, 1, 3, 5)]), "2 4 1 3, 2 4 6 1 3 5")

    def test_all_shelves(self):
        for shelf in SHELVES[1:]:
            self.assert_both(show_shelf, read_shelf, shelf, ", ".join(" ".join(map(str, row)) for row in shelf))

    def test_no_shelves(self):
        eight = (2, 4, 6, 8, 1, 3, 5, 7)
        no_shelves = [
            (FOUR, FOUR), BOTH[::-1], ((2, 4, 6, 1, 3, 5),), (OTHER_FOUR, (2, 5, 3, 1, 4)), closed([eight]), (eight,),
            TWENTY_ONE, TO_FIVE + tuple(SIXES), tuple(sorted(TO_FIVE)), TWENTY[::-1], ((1,),), ((1, 2),), (FOUR, (1,)),
            ((1, 2, 3, 4),), (FOUR, (2, 4, 1, 3, 5)), TWENTY + TWENTY[-1:]]
        for rows in no_shelves:
            self.assertIs(is_shelf(rows), False)
            self.assert_none(read_shelf, [", ".join(" ".join(map(str, row)) for row in rows)])

    def test_other_texts(self):
        self.assert_none(read_shelf, [
            "", " ", "--", "- ", " -", "-, -", "-, 2 4 1 3", "2 4 1 3, -", "2 4 1 3,", "2 4 1 3, ", ", 2 4 1 3",
            "2 4 1 3,3 1 4 2", "2 4 1 3 , 3 1 4 2", "2 4 1 3,  3 1 4 2", "2 4 1 3  3 1 4 2", "2 4 1 3 3 1 4 2",
            "2 4 1 3; 3 1 4 2", "2 4 1 3, 3 1 4 02", "2 4 1 03", " 2 4 1 3", "2 4 1 3 ", "2 4  1 3", "()", "0", "1",
            "2.4.1.3", "2 4 1 3, , 3 1 4 2", ",", ", ", "2 4 1 +3", "2 4 1 3, a", "2 4 1 3\n", ", " * 300, "-" * 600])

    def test_texts_with_one_sign_otherwise(self):
        due = {"-": ()}
        due.update({" ".join(map(str, row)): (row,) for row in BOTH})
        due["2 4 1 3, 3 1 4 2"] = BOTH
        for text in ("-", "2 4 1 3", "2 4 1 3, 3 1 4 2"):
            for other in otherwise(text):
                self.assert_just_such(read_shelf, other, due)

    def test_any_things(self):
        self.assert_any_things_refused(read_shelf)


class AskedAgainTest(Asking, unittest.TestCase):

    QUESTIONS = [
        (show_row, (1,)), (show_row, FORTY), (show_tree, ONE), (show_tree, TREE), (show_shelf, ()),
        (show_shelf, TWENTY), (read_row, "1"), (read_row, "2 4 1 3"), (read_tree, "1"), (read_tree, "(1 - 1)"),
        (read_tree, "2.4.1.3[1 1 (1 + 1) 1]"), (read_shelf, "-"), (read_shelf, "2 4 1 3"),
    ]
    REFUSED = [(NoText, read, thing) for read in (read_row, read_tree, read_shelf)
               for thing in (None, "", "(1 + 1", [["1"]], (1,))]


if __name__ == "__main__":
    unittest.main()
