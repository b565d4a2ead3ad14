"""Trees: what they are, the row of a tree, the tree of a row, the shapes in a tree."""

from knotlessrows.rows import MOST_NUMBERS, aside, by_sizes, shape_at, upside
from knotlessrows.stretches import is_unbroken, whole_stretches

ONE = ("one",)


def has_head(thing, head):
    """Whether a thing is a tuple with this word at its head."""
    return isinstance(thing, tuple) and len(thing) > 0 and thing[0] == head


def are_parts(thing):
    """Whether a thing is a tuple of as many things as a tree may have parts."""
    return isinstance(thing, tuple) and 2 <= len(thing) <= MOST_NUMBERS


def is_line(thing, head):
    """Whether a thing is a rise, or a fall, as its head tells, whatever its parts are but another such one."""
    if not has_head(thing, head) or len(thing) != 2 or not are_parts(thing[1]):
        return False
    return not any([has_head(part, head) for part in thing[1]])


def is_shape(thing):
    """Whether a thing is a shape with as many parts as its row has numbers, whatever they are."""
    if not has_head(thing, "shape") or len(thing) != 3 or not are_parts(thing[2]):
        return False
    return is_unbroken(thing[1]) and len(thing[1]) == len(thing[2])


def is_tree(thing):
    """Whether a thing is a tree, of at most forty numbers."""
    ones = 0
    ahead = [thing]
    while ahead:
        node = ahead.pop()
        if has_head(node, "one") and len(node) == 1:
            ones += 1
        elif is_line(node, "rise") or is_line(node, "fall") or is_shape(node):
            ahead.extend(node[-1])
        else:
            return False
        # Each thing ahead would have a one in it, so this bounds the work as well as the tree.
        if ones + len(ahead) > MOST_NUMBERS:
            return False
    return True


def parts_of(tree):
    """The parts of a tree, a tuple; one has none."""
    return () if tree == ONE else tree[-1]


def top_shape(tree):
    """The row as which the parts of a tree that isn't one stand to one another."""
    many = len(parts_of(tree))
    if tree[0] == "rise":
        return tuple(range(1, many + 1))
    if tree[0] == "fall":
        return tuple(range(many, 0, -1))
    return tree[1]


def blown_up(shape, rows):
    """The rows side by side, standing to one another as the shape's numbers do."""
    below = [0] * len(shape)
    many = 0
    for counted in aside(shape):
        below[counted - 1] = many
        many += len(rows[counted - 1])
    return tuple([number + low for low, row in zip(below, rows) for number in row])


def row_of(tree):
    """The row of a tree."""
    if tree == ONE:
        return (1,)
    return blown_up(top_shape(tree), [row_of(part) for part in parts_of(tree)])


def rise_ends(row):
    """The ends of all parts of a rise: the places up to which the numbers are the least ones."""
    ends = []
    greatest = 0
    for many, number in enumerate(row, start=1):
        greatest = max(greatest, number)
        if greatest == many:
            ends.append(many)
    return ends


def shape_ends(row):
    """The ends of all parts of a row that is no rise and no fall: of its greatest whole stretches but itself."""
    # Those that begin at one place come with rising ends, so the longest one stays.
    longest = {begin: end for begin, end in whole_stretches(row) if end - begin < len(row)}
    ends = []
    begin = 0
    while begin < len(row):
        begin = longest.get(begin, begin + 1)
        ends.append(begin)
    return ends


def part_trees(row, ends):
    """The trees of a row's stretches, each of which begins where the one ahead ends."""
    begins = [0] + ends[:-1]
    return tuple([tree_of(shape_at(row, tuple(range(begin, end)))) for begin, end in zip(begins, ends)])


def tree_of(row):
    """The one tree of a row."""
    if len(row) == 1:
        return ONE
    ends = rise_ends(row)
    if len(ends) > 1:
        return ("rise", part_trees(row, ends))
    ends = rise_ends(upside(row))
    if len(ends) > 1:
        return ("fall", part_trees(row, ends))
    ends = shape_ends(row)
    return ("shape", shape_at(row, tuple([0] + ends[:-1])), part_trees(row, ends))


def nodes_in(tree):
    """All nodes of a tree, in any order."""
    nodes = []
    ahead = [tree]
    while ahead:
        node = ahead.pop()
        nodes.append(node)
        ahead.extend(parts_of(node))
    return nodes


def shapes_in(tree):
    """The unbroken rows of all nodes of a tree, each once, in the order of sizes."""
    return by_sizes([node[1] for node in nodes_in(tree) if node[0] == "shape"])
