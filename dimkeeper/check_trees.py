"""Whether a Refusal is right, and what is wrong with its tree."""

from dimkeeper.checks import is_within
from dimkeeper.errors import BadPaper
from dimkeeper.papers import is_called
from dimkeeper.refuse import Refusal
from dimkeeper.tasks import MOST_PAGES, check_task
from dimkeeper.tree_faults import first_fault, play_fault
from dimkeeper.trees import Tree


def is_refusal(value):
    """Whether a value is a Refusal of a number of pages with a tree."""
    if not isinstance(value, Refusal) or not is_called(value, "Refusal"):
        return False
    return is_within(value.pages, 1, MOST_PAGES) and isinstance(value.tree, Tree)


def check_refusal(value):
    """Raises BadPaper unless the value is a Refusal of a number of pages with a tree."""
    if not is_refusal(value):
        raise BadPaper("refusal")


def fault_in(task, tree, k):
    """The pair (answers above, what) of the first question or leaf at fault in a tree for k pages, or None."""
    return first_fault(task, k, tree, (), play_fault)


def shows_refusal(task, value):
    """Whether value is a right Refusal."""
    check_task(task)
    return is_refusal(value) and fault_in(task, value.tree, value.pages) is None


def check_shown(task, value):
    """Raises BadTask for what is no task, and BadPaper unless the value is a right Refusal."""
    if not shows_refusal(task, value):
        raise BadPaper("refusal")


def tree_fault(task, refusal):
    """The pair (answers above, what) of the first question or leaf at fault, or None."""
    check_task(task)
    check_refusal(refusal)
    return fault_in(task, refusal.tree, refusal.pages)
