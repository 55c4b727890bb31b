"""Refusals with fewer questions, and for fewer pages."""

from dimkeeper.check_trees import check_refusal, check_shown
from dimkeeper.checks import is_within
from dimkeeper.errors import BadNumbers, BadTree
from dimkeeper.refuse import Refusal
from dimkeeper.tree_faults import first_fault, parts_behind, play_fault
from dimkeeper.trees import Leaf, Need


def cut(task, refusal):
    """The Refusal without the questions in whose place one of their trees would be right."""
    check_shown(task, refusal)
    return Refusal(refusal.pages, cut_tree(task, refusal.pages, refusal.tree, ()))


def cut_tree(task, k, tree, above):
    """A right tree that stands behind these answers, cut from its leaves up."""
    if isinstance(tree, Leaf):
        return tree
    parts = [cut_tree(task, k, part, answers) for answers, part in parts_behind(task, tree, above)]
    for part in parts:
        if first_fault(task, k, part, above, play_fault) is None:
            return part
    width = len(tree.parts[0])
    return Need(tree.page, tree.sight, [parts[at:at + width] for at in range(0, len(parts), width)])


def fewer(refusal, k):
    """The Refusal for k pages: of each row just the first trees, as many as are right."""
    check_refusal(refusal)
    if not is_within(k, 1, refusal.pages):
        raise BadNumbers("k")
    return Refusal(k, narrow_tree(refusal.tree, k, 1))


def narrow_tree(tree, k, used):
    """The tree for k pages of a tree where this is the greatest used page."""
    if isinstance(tree, Leaf):
        return tree
    width = min(used + 1, k)
    if any([len(row) < width for row in tree.parts]):
        raise BadTree("pages")
    return Need(tree.page, tree.sight, [[narrow_tree(part, k, max(used, at + 1)) for at, part in enumerate(row[:width])]
                                        for row in tree.parts])
