"""Whether a Least is right."""

from dimkeeper.check_kept import shows_kept
from dimkeeper.check_trees import shows_refusal
from dimkeeper.checks import is_within
from dimkeeper.least import Least
from dimkeeper.papers import is_called
from dimkeeper.tasks import check_task


def shows_least(task, value):
    """Whether value is a right Least for a task."""
    check_task(task)
    if not isinstance(value, Least) or not is_called(value, "Least") or not is_within(value.number, 1, None):
        return False
    if not shows_kept(task, value.kept) or value.kept.pages != value.number:
        return False
    if value.number == 1:
        return value.refusal is None
    return shows_refusal(task, value.refusal) and value.refusal.pages == value.number - 1
