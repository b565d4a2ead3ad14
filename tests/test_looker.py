"""[21]: papers, and the looker that lets by just those that are so."""

import functools
import itertools
import time
import unittest

from knotlessrows.barred import least_barred
from knotlessrows.counts import counts
from knotlessrows.looker import holds
from knotlessrows.meets import chain
from knotlessrows.numbering import row_at
from knotlessrows.papers import paper_of
from knotlessrows.rows import put_in
from knotlessrows.shelves import is_shelf
from knotlessrows.trees import tree_of
from tests.asking import Asking
from tests.slow import closed, of_class, row_by_leaves, rows_of, rows_to, shape_of, trees_with, unbroken
from tests.some_shelves import FIVES, FOUR, LONGER_SHELVES, OTHER_FOUR, SHELVES, TO_FIVE, TWENTY, TWENTY_ONE
from tests.things import FORTY, MIXED_FORTY, ZIGZAG_FORTY, any_things, nested

ONE = ("one",)
BOTH = (FOUR, OTHER_FOUR)
FIVE = (3, 5, 1, 2, 4)
FORTY_ONE = FORTY + (41,)
ALL_PLACES = tuple(range(40))


def growing(most):
    """Rows of one to so many numbers, each coming of the one ahead, none with a knot in it."""
    rows = [(1,)]
    for size in range(1, most):
        rows.append(put_in(rows[-1], size // 2, (size + 1) // 2))
    return rows


# Papers of every kind that are so.
PAPERS = [
    ("of", (), (1,), ONE), ("of", (), (2, 1), ("fall", (ONE, ONE))), ("of", (FOUR,), FIVE, tree_of(FIVE)),
    ("of", TWENTY, FORTY, ("rise", (ONE,) * 40)), ("of", (FOUR,), FOUR, ("shape", FOUR, (ONE,) * 4)),
    ("barred", (), FOUR, (0, 1, 2, 3)), ("barred", (FOUR,), (1, 4, 2, 5, 3), (1, 2, 3, 4)),
    ("barred", TWENTY, ZIGZAG_FORTY, ALL_PLACES), ("barred", BOTH, FIVES[0], (0, 1, 2, 3, 4)),
    ("least", (), FOUR), ("least", (FOUR,), OTHER_FOUR), ("least", (FOUR,), (2, 4, 6, 1, 3, 5)),
    ("chain", [()]), ("chain", [TWENTY]), ("chain", [(), (FOUR,), BOTH]), ("chain", [(), (OTHER_FOUR,), BOTH]),
    ("chain", chain((), TWENTY)), ("grown", (), [(1,)]), ("grown", (), [FORTY]), ("grown", (), [(1,), (2, 1), (1, 3, 2)]),
    ("grown", (FOUR,), [(2, 1, 3), FOUR]), ("grown", TWENTY, growing(40)), ("grown", BOTH, [FORTY[:39], FORTY]),
]


def parts_of_paper(thing, way=()):
    """The ways to all things within a thing, each by the indexes that lead there, and the things."""
    yield way, thing
    if isinstance(thing, (list, tuple)):
        for at, part in enumerate(thing):
            yield from parts_of_paper(part, way + (at,))


def replaced(thing, way, other):
    """The thing with another one at the end of a way."""
    if not way:
        return other
    parts = list(thing)
    parts[way[0]] = replaced(parts[way[0]], way[1:], other)
    return type(thing)(parts)


def of_another_kind(thing):
    """Things of other kinds, which compare or look alike as far as may be."""
    others = [None, True, False, [], "", str(thing), (thing,), [thing]]
    if isinstance(thing, int):
        return others + [0 - thing - 1, 41]
    if isinstance(thing, str):
        return [other for other in others if other != thing] + [thing.upper(), thing + " "]
    return others + [list(thing) if isinstance(thing, tuple) else tuple(thing), list(thing) + [None]]


class Looking:
    """Mixed into test cases."""

    def assert_holds(self, due, thing):
        self.assertIs(holds(thing), due, repr(thing)[:300])


class KindsTest(Looking, unittest.TestCase):

    def test_papers_that_are_so(self):
        for paper in PAPERS:
            self.assert_holds(True, paper)

    def test_one_part_of_another_kind(self):
        for paper in PAPERS:
            parts = list(parts_of_paper(paper))
            # Of the long papers but some parts, so that it doesn't take long.
            for way, part in parts if len(parts) < 100 else parts[:5] + parts[::len(parts) // 12]:
                for other in of_another_kind(part):
                    if len(way) == 0 and isinstance(other, tuple) and len(other) != 1:
                        continue
                    self.assert_holds(False, replaced(paper, way, other))

    def test_truths_in_the_place_of_numbers(self):
        for paper in PAPERS:
            found = [(way, part) for way, part in parts_of_paper(paper) if isinstance(part, int) and part in (0, 1)]
            for way, part in found[:20] + found[20::5]:
                self.assert_holds(False, replaced(paper, way, bool(part)))

    def test_fewer_and_more_parts(self):
        for paper in PAPERS:
            self.assert_holds(False, list(paper))
            self.assert_holds(False, paper[:-1])
            self.assert_holds(False, paper[1:])
            self.assert_holds(False, paper + paper[-1:])
            self.assert_holds(False, paper + ((),))
            self.assert_holds(False, paper + (None,))
            self.assert_holds(False, (paper,))
            self.assert_holds(False, [paper])

    def test_other_heads(self):
        heads = ["of", "barred", "least", "chain", "grown", "tree", "bar", "OF", "of ", "", "papers", None, 0, True]
        for paper in PAPERS:
            for head in heads:
                if head != paper[0]:
                    self.assert_holds(False, (head,) + paper[1:])

    def test_any_things(self):
        for thing in any_things() + [(), [], ("of",), ("chain",), "of", "chain", FOUR, (FOUR,), tree_of(FOUR)]:
            self.assert_holds(False, thing)
        for thing in any_things():
            if is_shelf(thing):
                continue
            for paper in PAPERS[:12:3] + [PAPERS[14], PAPERS[-4]]:
                for at in range(len(paper)):
                    # The list of one row could be a growing one.
                    if thing != [(1, 2)]:
                        self.assert_holds(False, replaced(paper, (at,), thing))
            self.assert_holds(False, ("chain", [thing]))
            self.assert_holds(False, ("chain", [(), thing]))
            self.assert_holds(False, ("grown", (), [thing]))
            self.assert_holds(False, ("grown", (), [(1,), thing]))

    def test_things_many_deep(self):
        for kind in (list, tuple):
            deep = nested(kind, 85)
            for head, many in (("of", 3), ("barred", 3), ("least", 2), ("chain", 1), ("grown", 2)):
                self.assert_holds(False, (head,) + (deep,) * many)
                self.assert_holds(False, (head,) + ((),) + (deep,) * (many - 1))
        tree = ONE
        for at in range(44):
            tree = ("rise" if at & 1 else "fall", (ONE, tree))
        self.assert_holds(False, ("of", (), FORTY, tree))
        self.assert_holds(False, ("chain", [()] * 4990))
        self.assert_holds(False, ("chain", [(FOUR,)] * 900))
        self.assert_holds(False, ("grown", (), [(1,)] * 2000))
        self.assert_holds(False, ("grown", (), [FORTY] * 100))


class OfTest(Looking, unittest.TestCase):

    def test_all_small_rows_with_all_small_trees(self):
        rows = {tree: row_by_leaves(tree) for size in range(1, 6) for tree in trees_with(size)}
        for shelf in [(), (FOUR,), BOTH, closed([FIVES[0]])]:
            for tree, row in rows.items():
                self.assert_holds(of_class(shelf, row), ("of", shelf, row, tree))
            for (tree, row), other in itertools.product(list(rows.items())[:9] + list(rows.items())[::17], rows_to(4)):
                self.assert_holds(row == other and of_class(shelf, row), ("of", shelf, other, tree))

    def test_rows_of_forty(self):
        for shelf in SHELVES:
            row = row_at(shelf, 40, counts(shelf, 40)[-1] - 1)
            self.assert_holds(True, ("of", shelf, row, tree_of(row)))
            self.assert_holds(False, ("of", shelf, row[::-1], tree_of(row)))
            self.assert_holds(False, ("of", shelf, ZIGZAG_FORTY, tree_of(ZIGZAG_FORTY)))
            self.assert_holds(False, ("of", shelf, MIXED_FORTY, tree_of(MIXED_FORTY)))

    def test_no_rows_trees_and_shelves(self):
        self.assert_holds(False, ("of", (), FORTY_ONE, ("rise", (ONE,) * 41)))
        self.assert_holds(False, ("of", (), FORTY, ("rise", (ONE,) * 41)))
        self.assert_holds(False, ("of", (), (), ONE))
        self.assert_holds(False, ("of", (), (1, 2, 3), ("rise", (("rise", (ONE, ONE)), ONE))))
        self.assert_holds(False, ("of", (), (1, 2), ("rise", [ONE, ONE])))
        self.assert_holds(False, ("of", ((2, 4, 6, 1, 3, 5),), (1,), ONE))
        self.assert_holds(False, ("of", BOTH[::-1], (1,), ONE))
        self.assert_holds(False, ("of", TWENTY_ONE, (1,), ONE))
        self.assert_holds(False, ("of", (FOUR, FOUR), (1,), ONE))
        self.assert_holds(False, ("of", ((1, 2),), (1,), ONE))
        self.assert_holds(False, ("of", ((1, 2),), (1, 2), ("rise", (ONE, ONE))))
        self.assert_holds(False, ("of", ((1, 2, 3, 4),), (1, 2, 3, 4), ("shape", (1, 2, 3, 4), (ONE,) * 4)))
        self.assert_holds(False, ("of", (FOUR,), (2, 4, True, 3), ("shape", (2, 4, True, 3), (ONE,) * 4)))
        self.assert_holds(False, ("of", (FOUR,), FOUR, ("shape", (2, 4, True, 3), (ONE,) * 4)))


class BarredTest(Looking, unittest.TestCase):

    def test_all_places_of_small_rows(self):
        for shelf in [(), (OTHER_FOUR,), BOTH, TO_FIVE]:
            for row in list(rows_to(4)) + list(rows_of(5))[::3] + list(rows_of(6))[::29]:
                for many in range(len(row) + 1):
                    for places in itertools.combinations(range(len(row)), many):
                        shape = shape_of([row[place] for place in places])
                        self.assert_holds(unbroken(shape) and shape not in shelf, ("barred", shelf, row, places))

    def test_no_places(self):
        for places in [(), (0, 1, 2), (0, 1, 2, 4), (0, 1, 3, 2), (3, 2, 1, 0), (0, 0, 1, 2, 3), (0, 1, 2, 3, 3),
                       (-4, -3, -2, -1), (-1, 0, 1, 2, 3), (1, 2, 3, 4), (False, True, 2, 3), (0, True, 2, 3),
                       [0, 1, 2, 3], None, 0, "0123", (0, 1, 2, "3"), (0, 1, 2, (3,)), (0, 1, 2, None)]:
            self.assert_holds(False, ("barred", (), FOUR, places))
        self.assert_holds(True, ("barred", (), FOUR, (0, 1, 2, 3)))

    def test_rows_of_forty_and_more(self):
        for shelf in SHELVES:
            self.assert_holds(True, ("barred", shelf, ZIGZAG_FORTY, ALL_PLACES))
            self.assert_holds(False, ("barred", shelf, FORTY, ALL_PLACES))
            self.assert_holds(FOUR not in shelf, ("barred", shelf, ZIGZAG_FORTY, (0, 1, 20, 21)))
        self.assert_holds(False, ("barred", (), tuple(range(2, 42, 2)) + tuple(range(1, 42, 2)), (0, 1, 20, 21)))

    def test_rows_that_are_on_the_shelf(self):
        for shelf in SHELVES:
            for row in shelf:
                self.assert_holds(False, ("barred", shelf, row, tuple(range(len(row)))))


class LeastTest(Looking, unittest.TestCase):

    def test_all_small_rows(self):
        for shelf in SHELVES:
            due = least_barred(shelf)
            for row in list(rows_to(5)) + list(rows_of(6))[::7] + due:
                self.assert_holds(row in due, ("least", shelf, row))

    def test_gone_through_one_by_one(self):
        for shelf in [(), (FOUR,), BOTH]:
            for row in rows_to(6):
                shorter = [shape_of(row[:place] + row[place + 1:]) for place in range(len(row))]
                due = not of_class(shelf, row) and all(of_class(shelf, other) for other in shorter)
                self.assert_holds(due, ("least", shelf, row))

    def test_longer_rows(self):
        for shelf in LONGER_SHELVES:
            for row in least_barred(shelf):
                self.assert_holds(True, ("least", shelf, row))
                self.assert_holds(False, ("least", shelf, row + (len(row) + 1,)))
            for row in (FORTY, ZIGZAG_FORTY, MIXED_FORTY, (1,)):
                self.assert_holds(False, ("least", shelf, row))


class ChainTest(Looking, unittest.TestCase):

    def test_chains_of_none_and_one(self):
        self.assert_holds(False, ("chain", []))
        self.assert_holds(False, ("chain", ()))
        for shelf in SHELVES:
            self.assert_holds(True, ("chain", [shelf]))
            self.assert_holds(False, ("chain", (shelf,)))
        self.assert_holds(False, ("chain", [TWENTY_ONE]))
        self.assert_holds(False, ("chain", [((2, 4, 6, 1, 3, 5),)]))

    def test_steps(self):
        for one, other in itertools.product(SHELVES, repeat=2):
            due = len(one) + 1 == len(other) and set(one) < set(other)
            self.assert_holds(due, ("chain", [one, other]))

    def test_stretches_of_a_chain(self):
        whole = chain((), TWENTY)
        for begin, end in list(itertools.combinations(range(22), 2))[::3]:
            self.assert_holds(True, ("chain", whole[begin:end]))
            self.assert_holds(end - begin == 1, ("chain", whole[begin:end][::-1]))
            self.assert_holds(False, ("chain", whole[begin:end] + whole[end - 1:end]))
        for at in range(1, 20):
            # A step of two rows.
            self.assert_holds(False, ("chain", whole[:at] + whole[at + 1:]))
        self.assert_holds(False, ("chain", whole + [TWENTY_ONE]))

    def test_one_row_more_but_another_one_gone(self):
        self.assert_holds(False, ("chain", [(FOUR,), closed([(5, 3, 1, 6, 4, 2)])]))
        self.assert_holds(False, ("chain", [(), (FOUR,), closed([(4, 1, 3, 5, 2)])]))
        self.assert_holds(False, ("chain", [(FOUR,), (OTHER_FOUR,)]))


class GrownTest(Looking, unittest.TestCase):

    @functools.cached_property
    def longer(self):
        """All rows that come of each small row by one number put in."""
        return {row: {put_in(row, place, number) for place in range(len(row) + 1) for number in range(1, len(row) + 2)}
                for row in rows_to(3)}

    def test_two_rows(self):
        for shelf in [(), (FOUR,), BOTH]:
            for one, other in itertools.product(rows_to(3), rows_to(4)):
                due = other in self.longer[one] and of_class(shelf, one) and of_class(shelf, other)
                self.assert_holds(due, ("grown", shelf, [one, other]))

    def test_none_and_one(self):
        self.assert_holds(False, ("grown", (), []))
        for shelf in SHELVES:
            for row in list(rows_to(4)) + FIVES + [FORTY, ZIGZAG_FORTY]:
                self.assert_holds(len(row) < 40 and of_class(shelf, row) or row == FORTY, ("grown", shelf, [row]))
                self.assert_holds(False, ("grown", shelf, (row,)))
        self.assert_holds(False, ("grown", (), [FORTY_ONE]))

    def test_to_forty_and_beyond(self):
        rows = growing(40)
        for shelf in SHELVES:
            self.assert_holds(True, ("grown", shelf, rows))
            self.assert_holds(True, ("grown", shelf, rows[-2:]))
            self.assert_holds(False, ("grown", shelf, rows[:10] + rows[11:]))
            self.assert_holds(False, ("grown", shelf, rows[::-1]))
            self.assert_holds(False, ("grown", shelf, rows + rows[-1:]))
            self.assert_holds(False, ("grown", shelf, rows[-1:] + [FORTY_ONE]))
        self.assert_holds(True, ("grown", (), [FORTY[:39], FORTY]))
        self.assert_holds(False, ("grown", (), [FORTY[:38], FORTY]))
        self.assert_holds(False, ("grown", (), [FORTY, FORTY_ONE]))
        self.assert_holds(False, ("grown", (), [FORTY[:39][::-1], FORTY]))

    def test_a_barred_row_among_them(self):
        rows = [(2, 1, 3), FOUR, (2, 4, 1, 3, 5)]
        self.assert_holds(True, ("grown", (FOUR,), rows))
        self.assert_holds(False, ("grown", (), rows))
        self.assert_holds(True, ("grown", (), rows[:1]))
        self.assert_holds(False, ("grown", (), rows[1:]))


class PaperOfTest(Looking, unittest.TestCase):

    def test_let_by_and_of_the_right_kind(self):
        for shelf in SHELVES:
            for row in list(rows_to(5)) + list(rows_of(6))[::11] + [FORTY, ZIGZAG_FORTY, MIXED_FORTY, FORTY[::-1]]:
                paper = paper_of(shelf, row)
                self.assert_holds(True, paper)
                self.assertEqual(paper[1:3], (shelf, row))
                if len(row) < 40:
                    self.assertEqual(paper[0], "of" if of_class(shelf, row) else "barred")

    def test_rows_of_forty(self):
        for shelf in SHELVES:
            self.assertEqual(paper_of(shelf, FORTY), ("of", shelf, FORTY, ("rise", (ONE,) * 40)))
            for row in (ZIGZAG_FORTY, MIXED_FORTY):
                self.assertEqual(paper_of(shelf, row)[0], "barred")

    def test_for_no_row_both_papers(self):
        for shelf in [(), (FOUR,), TO_FIVE]:
            for row in list(rows_to(4)) + list(rows_of(5))[::5]:
                of = holds(("of", shelf, row, tree_of(row)))
                places = [chosen for many in range(1, len(row) + 1)
                          for chosen in itertools.combinations(range(len(row)), many)]
                self.assertNotEqual(of, any(holds(("barred", shelf, row, chosen)) for chosen in places))


class AskedAgainTest(Asking, unittest.TestCase):

    QUESTIONS = [(holds, paper) for paper in PAPERS] + [
        (holds, None), (holds, ("chain", [[], [[]]])), (holds, ["grown", (), [[1]]]), (holds, ("grown", (), [[1]])),
        (paper_of, (), FOUR), (paper_of, (FOUR,), FOUR), (paper_of, TWENTY, FORTY), (paper_of, BOTH, FIVES[0]),
    ]

    def test_a_list_changed_behind_the_call(self):
        shelves = [(), (FOUR,), BOTH]
        self.assertIs(holds(("chain", shelves)), True)
        self.assertEqual(shelves, [(), (FOUR,), BOTH])
        shelves.append(())
        self.assertIs(holds(("chain", shelves)), False)
        shelves.pop()
        self.assertIs(holds(("chain", shelves)), True)
        rows = [(1,), (1, 2)]
        self.assertIs(holds(("grown", (), rows)), True)
        rows.reverse()
        self.assertIs(holds(("grown", (), rows)), False)
        self.assertEqual(rows, [(1, 2), (1,)])

    def test_long_papers_are_looked_at_quickly(self):
        begun = time.monotonic()
        for paper in [("grown", TWENTY, growing(40)), ("grown", TWENTY, [ZIGZAG_FORTY] * 100),
                      ("least", TWENTY, ZIGZAG_FORTY), ("chain", [TWENTY] * 40), ("chain", [LONGER_SHELVES[-2]] * 20)]:
            holds(paper)
        self.assertLess(time.monotonic() - begun, 20)


if __name__ == "__main__":
    unittest.main()
