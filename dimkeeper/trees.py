"""Trees of what a notebook can say, cell by cell, and how each way ends."""

from dimkeeper.checks import is_name, is_row, is_within
from dimkeeper.errors import BadTree, TooMany
from dimkeeper.reader import Reader
from dimkeeper.tasks import MOST_PAGES


class Tree:
    """A leaf or a question."""

    @staticmethod
    def read(text):
        """The leaf or the question with this text."""
        reader = Reader(text)
        tree = read_tree(reader, 0, 0)
        reader.take_mark(None)
        return tree


class Leaf(Tree):
    """A play: the watch state with which it begins, and its states."""

    def __init__(self, first, states):
        if not is_name(first):
            raise BadTree("first")
        if not is_row(states) or not states or not all([is_name(state) for state in states]):
            raise BadTree("states")
        self.first = first
        self.states = tuple(states)
        self.depth = 0

    def __len__(self):
        return 1

    def __eq__(self, other):
        return isinstance(other, Leaf) and self.first == other.first and self.states == other.states

    def __str__(self):
        return " ".join(["play", self.first, *self.states])


class Need(Tree):
    """A question: its cell, and a row of trees for each deed, one for each next page."""

    MOST_DEPTH = 60
    MOST_LEAVES = 100000

    def __init__(self, page, sight, parts):
        if not is_within(page, 1, MOST_PAGES):
            raise BadTree("page")
        if not is_name(sight):
            raise BadTree("sight")
        if not is_row(parts) or not parts or not all([are_trees(row) for row in parts]):
            raise BadTree("parts")
        depth = 1 + max([tree.depth for row in parts for tree in row])
        leaves = sum([len(tree) for row in parts for tree in row])
        if depth > self.MOST_DEPTH:
            raise TooMany("depth", self.MOST_DEPTH)
        if leaves > self.MOST_LEAVES:
            raise TooMany("leaves", self.MOST_LEAVES)
        self.page = page
        self.sight = sight
        self.parts = tuple([tuple(row) for row in parts])
        self.depth = depth
        self._leaves = leaves

    def __len__(self):
        return len(range(self._leaves))

    def __eq__(self, other):
        return (isinstance(other, Need) and self.page == other.page and self.sight == other.sight
                and self.parts == other.parts)

    def __str__(self):
        rows = [" | ".join([str(tree) for tree in row]) for row in self.parts]
        return " ".join(["ask", str(self.page), self.sight, "(", " / ".join(rows), ")"])


def are_trees(value):
    """Whether a value is a list or a tuple of one or more trees."""
    return is_row(value) and len(value) > 0 and all([isinstance(tree, Tree) for tree in value])


def read_tree(reader, depth, ahead):
    """The tree that is due, within so many questions and behind so many leaves."""
    if reader.due() == "play":
        return read_leaf(reader)
    reader.need(depth < Need.MOST_DEPTH)
    reader.take_mark("ask")
    page = reader.take_number(1, MOST_PAGES)
    sight = reader.take_name()
    reader.take_mark("(")
    rows = [[read_tree(reader, depth + 1, ahead)]]
    ahead = ahead + len(rows[0][0])
    while reader.due() != ")":
        mark = reader.take(reader.due() in ("/", "|") and ahead < Need.MOST_LEAVES)
        tree = read_tree(reader, depth + 1, ahead)
        ahead = ahead + len(tree)
        if mark == "/":
            rows.append([tree])
        else:
            rows[-1].append(tree)
    reader.take_mark(")")
    return Need(page, sight, rows)


def read_leaf(reader):
    """The leaf that is due."""
    reader.take_mark("play")
    first = reader.take_name()
    states = [reader.take_name()]
    while is_name(reader.due()):
        states.append(reader.take_name())
    return Leaf(first, states)


def leaves_of(tree, deeds):
    """Yields the pair of the answers above, as entries, and the leaf, for each leaf, by rows and then by trees."""
    if not isinstance(tree, Tree):
        raise BadTree("tree")
    if not is_row(deeds) or not all([is_name(deed) for deed in deeds]) or not has_rows(tree, len(deeds)):
        raise BadTree("deeds")
    yield from leaves_behind(tree, deeds, ())


def has_rows(tree, many):
    """Whether each question of a tree has so many rows."""
    if isinstance(tree, Leaf):
        return True
    return len(tree.parts) == many and all([has_rows(part, many) for row in tree.parts for part in row])


def leaves_behind(tree, deeds, above):
    """Yields the pairs of answers and leaf of a tree that stands behind these answers."""
    if isinstance(tree, Leaf):
        yield above, tree
        return
    for deed, row in zip(deeds, tree.parts):
        for at, part in enumerate(row):
            answers = (*above, (tree.page, tree.sight, deed, at + 1))
            yield from leaves_behind(part, deeds, answers)
