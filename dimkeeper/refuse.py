"""Refusals: no table of so many pages holds."""

from dimkeeper.keepers import first_kept
from dimkeeper.papers import Denial
from dimkeeper.search import Search, check_searched
from dimkeeper.trees import Leaf, Need


class Refusal(Denial):
    """A tree of what a notebook of so many pages can say, at each leaf of which the promise is broken."""

    def __init__(self, pages, tree):
        super().__init__("refusal", pages, tree)
        self.pages = self.parts[0]
        self.tree = self.parts[1]


def refusal(task, k):
    """The Refusal of k pages with the whole search as its tree, or None if a table of at most k pages holds."""
    return refused(task, k) if first_kept(task, k) is None else None


def refused(task, k):
    """The Refusal of k pages, for which it is known that no table holds."""
    return Refusal(k, whole_tree(Search(task, k)))


def whole_tree(search):
    """The tree of a whole search without an end; the search stands at its first question."""
    # For each question on the way, its trees up to here.
    told = []
    while True:
        if search.here == Search.ASK:
            told.append([])
        else:
            first, states = search.leaf_play()
            tree = told_whole(search, told, Leaf(first[1], states))
            if tree is not None:
                return tree
        search.go_on()


def told_whole(search, told, tree):
    """Puts a tree at its place, and each question that is whole by it; returns the first question, if it is whole."""
    while told:
        told[-1].append(tree)
        question = search.questions[len(told) - 1]
        width = question.width
        trees = told[-1]
        if len(trees) < len(search.steps.deeds) * width:
            return None
        rows = [trees[at:at + width] for at in range(0, len(trees), width)]
        tree = Need(question.cell[0], question.cell[1], rows)
        told.pop()
    return tree


def opened(task, k):
    """How many questions, leaves and ends the whole search has."""
    check_searched(task, k)
    search = Search(task, k)
    many = {Search.ASK: 0, Search.LEAF: 0, Search.END: 0}
    while search.here is not None:
        many[search.here] += 1
        search.go_on()
    return many[Search.ASK], many[Search.LEAF], many[Search.END]
