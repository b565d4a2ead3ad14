"""[23]: the desk, its deeds and questions, what it refuses, and undo."""

import random
import unittest

from knotlessrows import errors
from knotlessrows.barred import least_barred
from knotlessrows.counts import counts
from knotlessrows.desk import Desk
from knotlessrows.errors import NoChain, NoDeed, NoName, NoNumber, NoPlaces, NoRow, NoSaying, NoShelf, NoText, TooMany
from knotlessrows.growing import heads
from knotlessrows.meets import joined, met
from knotlessrows.numbering import number_of, row_at
from knotlessrows.rows import aside, backward, upside
from knotlessrows.shelves import shelf_aside, shelf_backward, shelf_of, shelf_upside
from knotlessrows.texts import show_row, show_shelf, show_tree
from knotlessrows.trees import tree_of
from tests.refusing import Refusing
from tests.slow import closed, rows_to
from tests.slow_desk import SlowDesk
from tests.some_shelves import FIVES, FOUR, OTHER_FOUR, SIXES, TO_FIVE
from tests.things import BIG, FORTY, any_things

BOTH = (FOUR, OTHER_FOUR)
SIX = (2, 4, 6, 1, 3, 5)
EIGHT = (2, 4, 6, 8, 1, 3, 5, 7)
TEN, ELEVEN, TWELVE, THIRTEEN, SIXTEEN, SEVENTEEN = (tuple(range(1, many + 1)) for many in (10, 11, 12, 13, 16, 17))

# Sayings that a desk answers where r, s, t are rows and p, q are shelves, as told begins with.
BEGIN = ["row r 2 4 1 3", "row s 1 3 2", "shelf p -", "shelf q 2 4 6 1 3 5"]
QUESTIONS = [
    "names", "show r", "show s", "show p", "show q", "tree r", "tree s", "said p r", "said q r", "bars p", "bars q",
    "first p r", "first q r", "count p 4", "count q 60", "at q 4 22", "number q r", "number p s", "heads q r",
    "heads p s", "within p q", "within q p", "show a", "tree a", "show b", "bars b",
]
DEEDS = [
    "row r 1 2 3", "row a 2 1", "shelf p 3 1 4 2, 1 2", "shelf b -", "copy a r", "copy b q", "copy r s", "copy p q",
    "drop r", "drop q", "back s", "back q", "over s", "over q", "side s", "side q", "put r 0 5", "put s 3 1", "take r 3",
    "take s 0", "met b p q", "met q q p", "joined b p q", "joined p p q", "add p r", "copy r r",
]


def desk_with(*sayings):
    desk = Desk()
    for saying in sayings:
        assert desk.say(saying) == "ok", saying
    return desk


def outcome(desk, thing):
    """What a desk tells, or the class of its refusal."""
    try:
        return desk.say(thing)
    except errors.RowError as refusal:
        return type(refusal)


def outcomes(desk):
    return [outcome(desk, question) for question in QUESTIONS]


def shown(desk):
    """All that stands on a desk, by names."""
    return {name: outcome(desk, "show " + name) for name in desk.say("names").split(" ")}


class Told(Refusing):
    """Mixed into test cases."""

    def assert_refuses(self, desk, error, *things):
        """Each thing is refused, and changes nothing."""
        for thing in things:
            before = shown(desk)
            self.assert_refused(error, desk.say, thing)
            self.assertEqual(shown(desk), before, thing)

    def assert_all_undone(self, desk, many):
        """There are just so many deeds to undo."""
        for _ in range(many):
            self.assertEqual(desk.say("undo"), "ok")
        self.assert_refused(NoDeed, desk.say, "undo")
        self.assertEqual(desk.say("names"), "-")


class DeedsTest(Told, unittest.TestCase):

    def test_nothing_at_first(self):
        desk = Desk()
        self.assertEqual(desk.say("names"), "-")
        self.assert_refused(NoDeed, desk.say, "undo")
        self.assert_refused(NoName, desk.say, "show a")

    def test_row(self):
        for row in list(rows_to(4)) + [FIVES[0], TEN, ELEVEN, SIXTEEN, SIXTEEN[::-1]]:
            desk = Desk()
            self.assertEqual(desk.say("row a " + show_row(row)), "ok")
            self.assertEqual(desk.say("show a"), show_row(row))
            self.assertEqual(desk.say("names"), "a")

    def test_shelf(self):
        for rows in [[FOUR], [SIX], [(1,)], [TEN], [TEN, SIX], [FIVES[0], FIVES[1]], FIVES, [OTHER_FOUR, FOUR, FOUR],
                     [(1,)] * 6, [(4, 5, 10, 8, 9, 1, 2, 6, 7, 3), (3, 1, 2)]]:
            desk = Desk()
            self.assertEqual(desk.say("shelf a " + ", ".join(show_row(row) for row in rows)), "ok")
            self.assertEqual(desk.say("show a"), show_shelf(shelf_of(rows)))
            self.assertEqual(desk.say("show a"), show_shelf(closed(rows)))
        desk = desk_with("shelf a -")
        self.assertEqual(desk.say("show a"), "-")

    def test_names(self):
        desk = desk_with("row b 1", "row abcdefgh 1", "shelf z -", "row a 1", "shelf ab 2 4 1 3", "row row 1")
        self.assertEqual(desk.say("names"), "a ab abcdefgh b row z")
        desk.say("drop ab")
        self.assertEqual(desk.say("names"), "a abcdefgh b row z")

    def test_words_as_names(self):
        desk = desk_with("row row 2 1", "shelf shelf -", "copy undo row", "row names 1", "drop names")
        self.assertEqual(desk.say("show undo"), "2 1")
        self.assertEqual(desk.say("names"), "row shelf undo")
        self.assertEqual(desk.say("said shelf row"), "yes")

    def test_copy_and_drop(self):
        desk = desk_with(*BEGIN, "copy a r", "copy b q", "back r", "back q")
        self.assertEqual(desk.say("show a"), "2 4 1 3")
        self.assertEqual(desk.say("show b"), "2 4 1 3, 2 4 6 1 3 5")
        self.assertEqual(desk.say("show r"), "3 1 4 2")
        desk.say("drop r")
        self.assertEqual(desk.say("show a"), "2 4 1 3")
        self.assert_refuses(desk, NoName, "show r", "drop r", "copy a r", "copy r r")
        self.assertEqual(desk.say("names"), "a b p q s")

    def test_a_new_that_stands_already(self):
        desk = desk_with(*BEGIN, "row p 1 2", "shelf r 2 4 1 3")
        self.assertEqual([desk.say("show p"), desk.say("show r")], ["1 2", "2 4 1 3"])
        self.assertEqual(desk.say("said r p"), "yes")
        self.assert_refuses(desk, NoName, "said p r", "tree r", "bars p")
        desk = desk_with(*BEGIN, "copy r q", "met s q r", "joined q p s", "copy q q")
        self.assertEqual([desk.say("show " + name) for name in "rsq"], ["2 4 1 3, 2 4 6 1 3 5"] * 3)

    def test_turns(self):
        rows = list(rows_to(4)) + [FIVES[2], SIXTEEN, (3, 1, 4, 2, 16, 15, 5, 7, 6, 8, 9, 14, 13, 10, 12, 11)]
        for row in rows:
            for word, turn in (("back", backward), ("over", upside), ("side", aside)):
                desk = desk_with("row a " + show_row(row), word + " a")
                self.assertEqual(desk.say("show a"), show_row(turn(row)))
        for rows in [[], [FOUR], [SIX], [FIVES[0]], FIVES[:3]]:
            text = ", ".join(show_row(row) for row in rows) or "-"
            for word, turn in (("back", shelf_backward), ("over", shelf_upside), ("side", shelf_aside)):
                desk = desk_with("shelf a " + text, word + " a")
                self.assertEqual(desk.say("show a"), show_shelf(turn(shelf_of(rows))))

    def test_put_and_take(self):
        desk = desk_with("row a 1", "put a 0 2", "put a 1 1")
        self.assertEqual(desk.say("show a"), "3 1 2")
        self.assertEqual(desk.say("put a 3 4"), "ok")
        self.assertEqual(desk.say("show a"), "3 1 2 4")
        self.assertEqual(desk.say("take a 0"), "ok")
        self.assertEqual(desk.say("show a"), "1 2 3")
        self.assert_refuses(desk, NoPlaces, "put a 4 1", "put a 0 0", "put a 0 5", "put a 99 99", "take a 3", "take a 99")
        desk.say("take a 2")
        desk.say("take a 0")
        self.assertEqual(desk.say("show a"), "1")
        self.assert_refuses(desk, NoPlaces, "take a 0", "take a 1")
        desk = desk_with("row a " + show_row(SIXTEEN[:15]), "put a 15 16")
        self.assertEqual(desk.say("show a"), show_row(SIXTEEN))
        self.assertEqual(desk.say("take a 15"), "ok")
        self.assertEqual(desk.say("put a 10 16"), "ok")

    def test_met_and_joined(self):
        desk = desk_with("shelf p 2 4 1 3", "shelf q 3 1 4 2", "shelf r 3 5 1 4 2", "met a p q", "joined b p q",
                         "met c r p", "joined d q r")
        self.assertEqual([desk.say("show " + name) for name in "abcd"],
                         ["-", show_shelf(BOTH), "2 4 1 3", show_shelf(closed([(3, 5, 1, 4, 2)]))])
        self.assertEqual(desk.say("met p p p"), "ok")
        self.assertEqual(desk.say("show p"), "2 4 1 3")
        first, second = closed([(2, 4, 7, 1, 6, 3, 5)]), closed([(3, 6, 1, 4, 7, 2, 5)])
        desk = desk_with("shelf p 2 4 7 1 6 3 5", "shelf q 3 6 1 4 7 2 5", "met a p q")
        self.assertEqual(desk.say("show a"), show_shelf(met(first, second)))
        self.assert_refused(NoShelf, joined, first, second)
        self.assert_refuses(desk, NoShelf, "joined a p q", "joined p p q", "joined new q p")

    def test_add_and_off(self):
        desk = desk_with("shelf p -", "row r 2 4 1 3", "row s 3 5 1 4 2", "row t 3 1 4 2", "row one 1", "add p r")
        self.assertEqual(desk.say("show p"), "2 4 1 3")
        self.assert_refuses(desk, NoShelf, "add p r", "add p s", "add p one", "off p t", "off p s", "off p one")
        self.assertEqual([desk.say("add p t"), desk.say("add p s")], ["ok", "ok"])
        self.assertEqual(desk.say("show p"), "2 4 1 3, 3 1 4 2, 3 5 1 4 2")
        self.assert_refuses(desk, NoShelf, "off p r", "off p t", "add p s")
        self.assertEqual(desk.say("off p s"), "ok")
        self.assertEqual(desk.say("off p r"), "ok")
        self.assertEqual(desk.say("show p"), "3 1 4 2")
        self.assertEqual(desk.say("show r"), "2 4 1 3")

    def test_add_to_twenty(self):
        desk = desk_with("shelf p " + ", ".join(show_row(row) for row in FIVES))
        for row in SIXES[:12]:
            desk.say("row r " + show_row(row))
            self.assertEqual(desk.say("add p r"), "ok")
        desk.say("row r " + show_row(SIXES[12]))
        self.assert_refuses(desk, NoShelf, "add p r")
        self.assertEqual(desk.say("show p").count(","), 19)

    def test_add_long_rows(self):
        desk = desk_with("shelf p 2 4 6 1 3 5", "row r " + show_row(EIGHT), "row s " + show_row(SIXTEEN))
        self.assertIn(EIGHT, least_barred(closed([SIX])))
        self.assert_refuses(desk, NoShelf, "add p r", "add p s", "off p r", "off p s")


class QuestionsTest(Told, unittest.TestCase):

    SHELVES = [(), (FOUR,), BOTH, closed([SIX]), closed([FIVES[0]]), TO_FIVE]

    def desk_with_shelf(self, shelf, row=(1,)):
        desk = Desk()
        desk.say("row r " + show_row(row))
        desk.say("shelf p -")
        for other in shelf:
            desk.say("row t " + show_row(other))
            desk.say("add p t")
        self.assertEqual(desk.say("show p"), show_shelf(shelf))
        return desk

    def test_what_the_functions_tell(self):
        for shelf in self.SHELVES:
            for row in [(1,), (2, 1), FOUR, OTHER_FOUR, (2, 3, 1, 5, 4), FIVES[0], (2, 5, 4, 1, 3), SIX, TEN, EIGHT]:
                desk, slow = self.desk_with_shelf(shelf, row), SlowDesk()
                slow.states.append({"r": row, "p": shelf})
                for asked in ("show r", "show p", "tree r", "said p r", "bars p", "first p r", "within p p"):
                    self.assertTrue(slow.is_right(asked, desk.say(asked)), asked)
                for asked in ("number p r", "heads p r"):
                    self.assertEqual(outcome(desk, asked), outcome(slow, asked), asked)

    def test_examples(self):
        desk = desk_with(*BEGIN, "row a 3 5 1 2 4", "row b 1 4 2 5 3")
        self.assertEqual(desk.say("tree a"), "2.4.1.3[1 1 (1 + 1) 1]")
        self.assertEqual(desk.say("tree s"), "(1 + (1 - 1))")
        self.assertEqual(desk.say("said q a"), "yes")
        self.assertEqual(desk.say("said q b"), "no 1 2 3 4")
        self.assertEqual(desk.say("said p r"), "no 0 1 2 3")
        self.assertEqual(desk.say("bars p"), "2 4 1 3, 3 1 4 2")
        self.assertEqual(desk.say("first q b"), "3 1 4 2")
        self.assertEqual(desk.say("first q a"), "-")
        self.assertEqual(desk.say("within p q"), "yes")
        self.assertEqual(desk.say("within q p"), "2 4 1 3")
        self.assertEqual(desk.say("heads p s"), "0 1 2 3")
        self.assertEqual(desk.say("tree r"), show_tree(tree_of(FOUR)))

    def test_count(self):
        for shelf in self.SHELVES:
            desk = self.desk_with_shelf(shelf)
            for n in (1, 2, 3, 4, 10, 40, 41, 59, 60):
                self.assertEqual(desk.say(f"count p {n}"), str(counts(shelf, n)[-1]))
            self.assert_refuses(desk, TooMany, "count p 0", "count p 61", "count p 99")

    def test_at_and_number(self):
        for shelf in self.SHELVES:
            desk = self.desk_with_shelf(shelf)
            for n in (1, 2, 4, 7, 16):
                many = counts(shelf, n)[-1]
                for number in (0, many // 2, many - 1):
                    text = desk.say(f"at p {n} {number}")
                    self.assertEqual(text, show_row(row_at(shelf, n, number)))
                    desk.say("row r " + text)
                    self.assertEqual(desk.say("number p r"), str(number))
                self.assert_refuses(desk, NoNumber, f"at p {n} {many}")
            last = counts(shelf, 40)[-1] - 1
            self.assertEqual(desk.say(f"at p 40 {last}"), show_row(row_at(shelf, 40, last)))
            self.assert_refuses(desk, TooMany, "at p 0 0", "at p 41 0", f"at p 41 {BIG}", "at p 99 0")
            self.assert_refuses(desk, NoNumber, f"at p 4 {BIG}", "at p 1 1")

    def test_number_of_barred_rows(self):
        desk = desk_with(*BEGIN)
        self.assert_refuses(desk, NoRow, "number p r", "heads p r")
        self.assertEqual(desk.say("number q r"), str(number_of(closed([SIX]), FOUR)))

    def test_heads(self):
        desk = desk_with("shelf p -", "row r " + show_row(TWELVE), "row s " + show_row(THIRTEEN), "row t 2 1 3")
        self.assertEqual(desk.say("heads p r"), " ".join(map(str, heads((), TWELVE))))
        self.assertEqual(desk.say("heads p t"), "0 2 3")
        self.assert_refuses(desk, TooMany, "heads p s")


class NoSayingTest(Told, unittest.TestCase):

    def test_no_texts(self):
        desk = desk_with(*BEGIN)
        things = [thing for thing in any_things() if not isinstance(thing, str)]
        for thing in things + [("names",), ["names"], [], b"names", ("show", "r"), ["undo"]]:
            self.assert_refused(NoSaying, desk.say, thing)
        self.assert_all_undone(desk, 4)

    def test_other_words(self):
        desk = desk_with(*BEGIN)
        self.assert_refuses(
            desk, NoSaying, "", " ", "  ", "~", "Names", "NAMES", "name", "nothing", "row", "shelf", "undo ", " undo",
            "undo 1", "undo undo", "names ", " names", "names r", "undo r", "rows r 1", "Row r 1", "ROW r 1", "show",
            "show ", "show  r", " show r", "show r ", "show r s", "show r  ", "tree", "tree r r", "drop", "drop ",
            "drop r s", "copy", "copy r", "copy a r s", "copy  a r", "copy a  r", "back", "back r s", "over", "side ",
            "put", "put r", "put r 0", "put r 0 1 2", "put r 0 1 ", "put r  0 1", "take", "take r", "take r 0 0",
            "take r ", "met", "met a", "met a p", "met a p q q", "joined a p", "joined a p q ", "add", "add p",
            "add p r r", "off p", "off", "said p", "said p r r", "bars", "bars p p", "first p", "count p", "count",
            "count p 4 4", "at p 4", "at p 4 0 0", "at", "number p", "number p r 1", "heads p", "heads p r s",
            "within p", "within p q q", "show\tr", "show r\n", "show-r", "show,r", "showr", "xshow r", "-", "ok",
            "a" * 600, "(" * 150, " " * 600)

    def test_names_otherwise_written(self):
        desk = desk_with(*BEGIN)
        for name in ("R", "rR", "r1", "1", "r-", "abcdefghi", "abcdefghijklmnop", "r.", "_", "-", "~", "r,", "(r)"):
            self.assert_refuses(
                desk, NoSaying, f"row {name} 1", f"shelf {name} -", f"copy {name} r", f"copy a {name}", f"drop {name}",
                f"back {name}", f"over {name}", f"side {name}", f"put {name} 0 1", f"take {name} 0", f"met {name} p q",
                f"met a {name} q", f"met a p {name}", f"joined {name} p q", f"joined a p {name}", f"add {name} r",
                f"add p {name}", f"off {name} r", f"off p {name}", f"show {name}", f"tree {name}", f"said {name} r",
                f"said p {name}", f"bars {name}", f"first {name} r", f"first p {name}", f"count {name} 4",
                f"at {name} 4 0", f"number {name} r", f"number p {name}", f"heads {name} r", f"heads p {name}",
                f"within {name} q", f"within p {name}")
        self.assertEqual(desk.say("row abcdefgh 1"), "ok")
        self.assertEqual(desk.say("row z 1"), "ok")

    def test_empty_names(self):
        desk = desk_with(*BEGIN)
        self.assert_refuses(desk, NoSaying, "row  1", "row  ", "shelf  -", "copy  r", "copy a ", "back ", "put  0 1",
                            "met  p q", "met a  q", "met a p ", "add  r", "add p ", "said  r", "within  q", "within p ")

    def test_numbers_otherwise_written(self):
        desk = desk_with(*BEGIN)
        for number in ("", "00", "01", "001", "100", "999", "-1", "+1", "-0", "1.0", "a", "r", "0x1", "1_0", "1e1", "~"):
            self.assert_refuses(desk, NoSaying, f"put r {number} 1", f"put r 0 {number}", f"take r {number}",
                                f"count p {number}", f"at p {number} 0")
        for index in ("", "00", "01", "-1", "+1", "1.0", "a", "1_0", "1" + "0" * 60, "9" * 61, "9" * 300, "0" * 60):
            self.assert_refuses(desk, NoSaying, f"at p 4 {index}", f"at p 41 {index}", f"at nothing 4 {index}")
        # Sixty figures are an index still, though of no row.
        self.assert_refuses(desk, NoNumber, "at p 4 " + "9" * 60, "at p 4 1" + "0" * 59, "at p 4 100")

    def test_texts_of_no_sign(self):
        desk = desk_with(*BEGIN)
        self.assert_refuses(desk, NoSaying, "row a", "row a ", "shelf a", "shelf a ", "row", "row ", "shelf ")


class OtherRefusalsTest(Told, unittest.TestCase):

    def test_no_text(self):
        desk = desk_with(*BEGIN)
        for text in (" ", "  ", " 1", "1 ", "1  2", "0", "2", "01", "1 1", "1 3", "-", "x", "1, 2", "r", "2.4.1.3", "~",
                     "1 2 r", show_row(FORTY + (41,)), "(1 + 1)", "show r", "1" * 500, "(" * 150):
            self.assert_refuses(desk, NoText, f"row a {text}", f"row r {text}", f"row p {text}")
        for text in (" ", " -", "- ", "--", "-, 1", "1, -", "1,1", "1,  1", "1 , 1", "1, ", ", 1", "0", "2", "x",
                     "1, x", "1; 1", " 1", "1 ", show_row(FORTY + (41,)), "1, 1, 1, 1, 1, 1, 1", ", ".join(["1"] * 8),
                     "2 4 1 3,", "p", ", ", ", " * 200):
            self.assert_refuses(desk, NoText, f"shelf a {text}", f"shelf p {text}", f"shelf r {text}")

    def test_no_name(self):
        desk = desk_with(*BEGIN)
        self.assert_refuses(
            desk, NoName, "show a", "drop a", "copy b a", "copy a a", "copy r a", "back a", "over a", "side a",
            "put a 0 1", "put p 0 1", "take a 0", "take q 0", "tree a", "tree p", "met b a q", "met b p a", "met b r q",
            "met b p r", "met b a a", "joined b a q", "joined b p s", "joined b r s", "add a r", "add p a", "add r p",
            "add r s", "add p q", "off a r", "off q a", "off r q", "said a r", "said p a", "said r p", "said r r",
            "said p q", "bars a", "bars r", "first a r", "first p a", "first r r", "count a 4", "count r 4", "at a 4 0",
            "at r 4 0", "number a r", "number p a", "number p p", "heads a r", "heads p a", "heads r p", "within a q",
            "within p a", "within r q", "within p s", "within a b")

    def test_too_many(self):
        desk = desk_with(*BEGIN, "row a " + show_row(SIXTEEN), "row b " + show_row(THIRTEEN))
        self.assert_refuses(
            desk, TooMany, "row c " + show_row(SEVENTEEN), "row r " + show_row(SEVENTEEN[::-1]),
            "row r " + show_row(FORTY), "put a 0 1", "put a 16 17", "put a 17 18", "put a 99 99", "put a 0 0",
            "heads p a", "heads p b", "heads q b", "shelf c " + show_row(ELEVEN), "shelf c " + show_row(SIXTEEN),
            "shelf c 2 4 1 3, " + show_row(ELEVEN[::-1]), "shelf c " + show_row(FORTY) + ", 1", "count p 0",
            "count p 61", "at p 0 0", "at p 41 0")

    def test_no_shelf(self):
        desk = desk_with(*BEGIN)
        twenty_one = "2 4 7 1 6 3 5, 3 6 1 4 7 2 5"
        self.assert_refuses(desk, NoShelf, "shelf a " + show_row(EIGHT), "shelf p 2 4 1 3, " + show_row(EIGHT),
                            "shelf a " + show_row((1,) + tuple(number + 1 for number in EIGHT)), "shelf a " + twenty_one,
                            "shelf r " + twenty_one)

    def test_two_wrong_things_at_once(self):
        desk = desk_with(*BEGIN, "row a " + show_row(SIXTEEN), "row c " + show_row((2, 4, 1, 3) + THIRTEEN[4:]))
        # Otherwise written, and more.
        self.assert_refuses(desk, NoSaying, "row R x", "row R " + show_row(FORTY), "shelf P x", "put nothing 100 1",
                            "put p 01 1", "take nothing 01", "take p -1", "at nothing 4 01", "at r 41 -1", "count r 061",
                            "said nothing R", "met a nothing Q", "put a 100 100")
        # No text, and too many.
        self.assert_refuses(desk, NoText, "row b " + show_row(SEVENTEEN) + " x", "row b " + show_row(FORTY + (41,)),
                            "shelf b " + show_row(ELEVEN) + ", x", "shelf b " + ", ".join([show_row(ELEVEN)] * 7),
                            "shelf b " + ", ".join([show_row(EIGHT)] * 7))
        # No name, and more.
        self.assert_refuses(desk, NoName, "put b 0 99", "put q 99 99", "take b 99", "count b 61", "count r 0",
                            "at b 41 0", "at r 4 99", "heads b a", "heads r a", "heads a p", "number a c", "add a c",
                            "joined c a b", "off r p", "heads b c")
        # Too many, and more.
        self.assert_refuses(desk, TooMany, "put a 99 99", "put a 17 0", "heads p c", "at p 41 99", "at p 0 0",
                            "shelf b " + show_row(ELEVEN) + ", " + show_row(EIGHT),
                            "shelf b " + show_row(EIGHT) + ", " + show_row(SEVENTEEN))

    def test_refusals_are_of_one_class_each(self):
        desk = desk_with(*BEGIN)
        classes = [NoChain, NoDeed, NoName, NoNumber, NoPlaces, NoRow, NoSaying, NoShelf, NoText, TooMany]
        for thing, error in (("", NoSaying), ("row a x", NoText), ("show a", NoName), ("count p 0", TooMany),
                             ("take r 9", NoPlaces), ("add p s", NoShelf), ("at p 1 1", NoNumber), ("number p r", NoRow)):
            with self.assertRaises(errors.RowError) as caught:
                desk.say(thing)
            self.assertIsInstance(caught.exception, ValueError)
            self.assertEqual([one for one in classes if isinstance(caught.exception, one)], [error])
        with self.assertRaises(NoDeed):
            Desk().say("undo")


class UndoTest(Told, unittest.TestCase):

    def test_each_deed(self):
        for deed in DEEDS:
            desk = desk_with(*BEGIN)
            before = outcomes(desk)
            self.assertEqual(desk.say(deed), "ok", deed)
            behind = outcomes(desk)
            # Aside, 1 3 2 is itself.
            self.assertEqual(behind == before, deed in ("copy r r", "side s"), deed)
            self.assertEqual(outcomes(desk), behind)
            self.assertEqual(desk.say("undo"), "ok")
            self.assertEqual(outcomes(desk), before, deed)
            self.assert_all_undone(desk, 4)

    def test_behind_many_deeds(self):
        desk = Desk()
        states = []
        deeds = BEGIN + [deed for deed in DEEDS if outcome(desk_with(*BEGIN), deed) == "ok"]
        done = []
        for deed in deeds * 3:
            before = outcomes(desk)
            if outcome(desk, deed) == "ok":
                states.append(before)
                done.append(deed)
            else:
                self.assertEqual(outcomes(desk), before, deed)
        self.assertGreater(len(done), 50)
        while states:
            self.assertEqual(desk.say("undo"), "ok")
            self.assertEqual(outcomes(desk), states.pop())
        self.assert_refused(NoDeed, desk.say, "undo")
        self.assertEqual(desk.say("names"), "-")

    def test_behind_refused_rows_and_questions(self):
        desk = desk_with("row r 1 2", "back r")
        self.assert_refuses(desk, NoPlaces, "take r 9")
        self.assert_refuses(desk, NoText, "row r x")
        self.assert_refuses(desk, NoSaying, "undo ", "Undo")
        self.assert_refuses(desk, NoName, "drop x")
        self.assertEqual(desk.say("undo"), "ok")
        self.assertEqual(desk.say("show r"), "1 2")
        self.assert_all_undone(desk, 1)

    def test_an_undo_is_no_deed(self):
        desk = desk_with("row r 1", "row r 1 2", "row r 1 2 3", "undo")
        self.assertEqual(desk.say("show r"), "1 2")
        self.assertEqual(desk.say("undo"), "ok")
        self.assertEqual(desk.say("show r"), "1")
        desk.say("row r 2 1")
        self.assertEqual(desk.say("undo"), "ok")
        self.assertEqual(desk.say("show r"), "1")
        self.assert_all_undone(desk, 1)
        self.assert_refused(NoDeed, desk.say, "undo")
        self.assertEqual(desk.say("row r 1"), "ok")
        self.assert_all_undone(desk, 1)

    def test_deeds_that_change_nothing_are_deeds(self):
        desk = desk_with("row r 1", "back r", "copy r r", "row r 1", "over r", "shelf p -", "back p", "met p p p")
        self.assert_all_undone(desk, 8)

    def test_a_thing_of_the_other_kind(self):
        desk = desk_with("row a 2 1", "shelf a -", "copy b a", "row b 1", "drop a")
        self.assertEqual(desk.say("undo"), "ok")
        self.assertEqual(desk.say("show a"), "-")
        desk.say("undo")
        self.assertEqual(desk.say("bars b"), "2 4 1 3, 3 1 4 2")
        desk.say("undo")
        desk.say("undo")
        self.assertEqual(desk.say("tree a"), "(1 - 1)")
        self.assert_all_undone(desk, 1)


class TwoDesksTest(Told, unittest.TestCase):

    def test_told_by_turns(self):
        alone = [desk_with(*BEGIN), desk_with(*BEGIN[::-1])]
        due = []
        for at, desk in enumerate(alone):
            due.append([(outcome(desk, deed), outcomes(desk)) for deed in DEEDS[at::2] + ["undo"] * 3])
        turns = [desk_with(*BEGIN), desk_with(*BEGIN[::-1])]
        told = [[], []]
        for both in zip(DEEDS[0::2] + ["undo"] * 3, DEEDS[1::2] + ["undo"] * 3):
            for at, saying in enumerate(both):
                told[at].append((outcome(turns[at], saying), outcomes(turns[at])))
        self.assertEqual(told[0], due[0][:len(told[0])])
        self.assertEqual(told[1], due[1][:len(told[1])])

    def test_a_new_one_has_nothing(self):
        desk = desk_with(*BEGIN)
        other = Desk()
        self.assertEqual(other.say("names"), "-")
        self.assert_refused(NoDeed, other.say, "undo")
        self.assert_refused(NoName, other.say, "show r")
        self.assertEqual(desk.say("names"), "p q r s")


class AgainstTheSlowDeskTest(Told, unittest.TestCase):

    # Rows mostly stand by the first three names, shelves by the others, so that most sayings fit.
    NAMES = {"R": ["a", "b", "c", "abcdefgh"], "S": ["p", "q", "t"]}
    TEXTS = ["1", "2 1", "2 4 1 3", "3 1 4 2", "2 5 3 1 4", "2 4 6 1 3 5", show_row(SIXTEEN), show_row(SEVENTEEN),
             show_row(THIRTEEN), show_row(EIGHT), "-", "x", "2 4 1 3, 3 1 4 2", "1 2, 2 4 6 1 3 5", show_row(ELEVEN),
             "2 4 1 3,1", " ", "3 5 1 4 2, 2 4 7 5 3 1 6"]
    INDEXES = ["0", "1", "2", "3", "4", "5", "7", "16", "61"]
    FORMS = [saying.split() for saying in (
        "row R T, row R T, row R T, shelf S T, shelf S T, copy R R, copy S S, drop R, drop S, back R, back S, over R, "
        "over S, side R, side S, put R I I, put R I I, put R I I, take R I, met S S S, joined S S S, add S R, add S R, "
        "add S R, off S R, off S R, undo, undo, show R, show S, tree R, said S R, bars S, first S R, count S I, "
        "at S I I, number S R, heads S R, within S S, names").split(", ")]

    def word(self, chance, kind):
        if kind in self.NAMES:
            kind = kind if chance.random() < 0.9 else chance.choice("RS")
            return chance.choice(self.NAMES[kind])
        if kind in "TI":
            return chance.choice(self.TEXTS if kind == "T" else self.INDEXES)
        return kind

    def saying(self, chance):
        words = [self.word(chance, kind) for kind in chance.choice(self.FORMS)]
        if chance.random() < 0.05:
            words.insert(chance.randrange(len(words) + 1), chance.choice(["", "x", "R", "01", "1"]))
        return " ".join(words)

    def test_long_sessions(self):
        for seed in range(12):
            chance = random.Random(seed)
            desk, slow = Desk(), SlowDesk()
            begin = [f"row {name} 2 4 1 3" for name in self.NAMES["R"]] + [f"shelf {name} -" for name in self.NAMES["S"]]
            for saying in begin + [self.saying(chance) for _ in range(400)]:
                try:
                    told = desk.say(saying)
                except errors.RowError as refusal:
                    self.assertEqual(type(refusal), outcome(slow, saying), saying)
                    continue
                self.assertIs(type(told), str)
                self.assertTrue(slow.is_right(saying, told), (saying, told))


if __name__ == "__main__":
    unittest.main()
