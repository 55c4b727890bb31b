"""Whether a Kept is right."""

from dimkeeper.check_closed import are_triples
from dimkeeper.keepers import Kept
from dimkeeper.papers import is_called
from dimkeeper.tables import Table, is_table
from dimkeeper.tasks import check_task


def shows_kept(task, value):
    """Whether value is a right Kept for a task."""
    check_task(task)
    if not isinstance(value, Kept) or not is_called(value, "Kept") or not is_table(value.pages, value.entries):
        return False
    if not all([deed in task.world.deeds for page, sight, deed, after in value.entries]):
        return False
    return are_triples(task, Table(value.pages, value.entries), value.triples)
