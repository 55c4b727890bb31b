"""What is wrong with a tree, question by question, leaf by leaf."""

from dimkeeper.checks import is_one_of
from dimkeeper.trees import Leaf
from dimkeeper.watches import Watch


def first_fault(task, k, tree, above, leaf_fault):
    """The pair (answers above, what) of the first question or leaf at fault in a tree for k pages, or None.

    The tree stands behind the answers above, entries; leaf_fault tells what is wrong with a leaf behind answers.
    """
    if isinstance(tree, Leaf):
        what = leaf_fault(task, tree, above)
        return None if what is None else (above, what)
    what = question_fault(task, k, tree, above)
    if what is not None:
        return above, what
    for answers, part in parts_behind(task, tree, above):
        fault = first_fault(task, k, part, answers, leaf_fault)
        if fault is not None:
            return fault
    return None


def parts_behind(task, tree, above):
    """The trees of a question, by rows, each with the answers above it."""
    return [((*above, (tree.page, tree.sight, deed, at + 1)), part)
            for deed, row in zip(task.world.deeds, tree.parts) for at, part in enumerate(row)]


def greatest_used(above):
    """The greatest used page behind these answers."""
    return max([1] + [entry[3] for entry in above])


def question_fault(task, k, tree, above):
    """What is wrong with a question behind these answers, or None."""
    used = greatest_used(above)
    if tree.page > used:
        return "page"
    if tree.sight not in task.blur.sights:
        return "sight"
    if any([entry[:2] == (tree.page, tree.sight) for entry in above]):
        return "cell"
    if len(tree.parts) != len(task.world.deeds):
        return "deeds"
    if any([len(row) != min(used + 1, k) for row in tree.parts]):
        return "pages"
    return None


def play_fault(task, leaf, above):
    """What is wrong with a leaf behind these answers, or None: its play is to break at its last moment."""
    if (leaf.states[0], leaf.first) not in task.standing:
        return "first"
    entries = {entry[:2]: entry[2:] for entry in above}
    page = 1
    place = leaf.first
    for at, state in enumerate(leaf.states):
        cell = (page, task.sight_of(state))
        if cell not in entries:
            return "cell"
        deed, page = entries[cell]
        place = task.watch.place_of(place, task.world.label_of(state), deed)
        is_last = at == len(leaf.states) - 1
        if (place == Watch.BROKEN) != is_last:
            return "broken"
        if not is_last and not is_one_of(leaf.states[at + 1], task.world.nexts(state, deed)):
            return "next"
    return None
