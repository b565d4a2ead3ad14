"""The rows of a class by numbers: of each size one number for each row, from 0 on.

Rises come first, then falls, then the rows that have each row of the shelf at their
trees' tops, in its order. Within these the first part and what is behind it have
numbers of their own, which make one up as two figures do.
"""

from knotlessrows.classes import said, size_of
from knotlessrows.counts import profile, worked_out
from knotlessrows.errors import NoNumber, NoRow, TooMany
from knotlessrows.rows import MOST_NUMBERS, is_within
from knotlessrows.trees import ONE, row_of


def parted(firsts, rests, size, number):
    """A pair by its number: the first one's size, its number, and the other one's number.

    firsts and rests tell how many there are by their sizes; both sizes come to size together.
    """
    first_size = 1
    while number >= firsts[first_size] * rests[size - first_size]:
        number -= firsts[first_size] * rests[size - first_size]
        first_size += 1
    first, rest = divmod(number, rests[size - first_size])
    return first_size, first, rest


def paired(firsts, rests, size, pair):
    """The number by which parted tells this pair."""
    first_size, first, rest = pair
    ahead = sum([firsts[k] * rests[size - k] for k in range(1, first_size)])
    return ahead + first * rests[size - first_size] + rest


class Numbers:
    """The numbers of the trees, to a size, all whose shapes are on a shelf."""

    def __init__(self, shelf, most):
        rises, side_by_side = worked_out(profile(shelf), most)
        self.shelf = shelf
        self.rises = rises
        self.side_by_side = side_by_side
        self.every = side_by_side[1]
        # There are as many falls as rises, so these are those that are no falls, too.
        self.no_lines = [many - lines for many, lines in zip(self.every, rises)]

    def tree_at(self, size, number):
        """The tree of so many numbers by its number."""
        if size == 1:
            return ONE
        lines = self.rises[size]
        if number < lines:
            return ("rise", self.line_at("rise", size, number))
        if number < 2 * lines:
            return ("fall", self.line_at("fall", size, number - lines))
        return self.shape_tree_at(size, number - 2 * lines)

    def line_at(self, head, size, number):
        """The parts of a rise, or a fall, by its number among these."""
        first_size, first, rest = parted(self.no_lines, self.every, size, number)
        # The first part is no such line itself, so it was numbered with these left out.
        if head == "rise" or first >= self.rises[first_size]:
            first += self.rises[first_size]
        behind = self.tree_at(size - first_size, rest)
        return (self.tree_at(first_size, first),) + (behind[1] if behind[0] == head else (behind,))

    def shape_tree_at(self, size, number):
        """The tree with a row of the shelf on top by its number among these."""
        at = 0
        while number >= self.side_by_side[len(self.shelf[at])][size]:
            number -= self.side_by_side[len(self.shelf[at])][size]
            at += 1
        row = self.shelf[at]
        return ("shape", row, self.parts_at(len(row), size, number))

    def parts_at(self, many, size, number):
        """So many trees side by side, of size numbers together, by their number."""
        if many == 1:
            return (self.tree_at(size, number),)
        first_size, first, rest = parted(self.every, self.side_by_side[many - 1], size, number)
        return (self.tree_at(first_size, first),) + self.parts_at(many - 1, size - first_size, rest)

    def number_of_tree(self, tree):
        """The number of a tree among all of its size."""
        if tree == ONE:
            return 0
        lines = self.rises[size_of(tree)]
        if tree[0] == "rise":
            return self.number_of_line("rise", tree[1])
        if tree[0] == "fall":
            return lines + self.number_of_line("fall", tree[1])
        return 2 * lines + self.number_of_shape(tree[1], tree[2])

    def number_of_line(self, head, parts):
        """The number of a rise, or a fall, of these parts among these."""
        first = self.number_of_tree(parts[0])
        first_size = size_of(parts[0])
        # What is no such line itself is numbered with these left out. Only a rise at the head of a fall
        # stands ahead of all that is left out, so its number stays.
        if first >= self.rises[first_size]:
            first -= self.rises[first_size]
        behind = parts[1] if len(parts) == 2 else (head, parts[1:])
        pair = (first_size, first, self.number_of_tree(behind))
        return paired(self.no_lines, self.every, first_size + size_of(behind), pair)

    def number_of_shape(self, row, parts):
        """The number of a tree with the row on top among those with a row of the shelf on top."""
        size = sum([size_of(part) for part in parts])
        ahead = sum([self.side_by_side[len(other)][size] for other in self.shelf[:self.shelf.index(row)]])
        return ahead + self.number_of_parts(parts, size)

    def number_of_parts(self, parts, size):
        """The number of these trees side by side, of size numbers together, among as many ones."""
        first = self.number_of_tree(parts[0])
        if len(parts) == 1:
            return first
        first_size = size_of(parts[0])
        pair = (first_size, first, self.number_of_parts(parts[1:], size - first_size))
        return paired(self.every, self.side_by_side[len(parts) - 1], size, pair)


def row_at(shelf, n, thing):
    """The row of n numbers of the shelf's class by its number."""
    if not is_within(n, 1, MOST_NUMBERS):
        raise TooMany("rows are numbered of one to forty numbers")
    numbers = Numbers(shelf, n)
    if not is_within(thing, 0, numbers.every[n] - 1):
        raise NoNumber("no row of the class and of so many numbers has this number")
    return row_of(numbers.tree_at(n, thing))


def number_of(shelf, row):
    """The number of a row of the shelf's class among those of its size."""
    kind, told = said(shelf, row)
    if kind == "bar":
        raise NoRow("the row is barred, so it has no number")
    return Numbers(shelf, len(row)).number_of_tree(told)
