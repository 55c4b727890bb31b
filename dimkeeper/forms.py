"""The one form of a table, and what its pages mean."""

from dimkeeper.closed import holds, serves
from dimkeeper.errors import NotKept
from dimkeeper.orders import each_once
from dimkeeper.stands import in_order
from dimkeeper.tables import Table, check_table
from dimkeeper.tasks import check_task
from dimkeeper.walks import check_deeds_known


def needed(task, table):
    """The needed cells of a table that serves, in order."""
    paper = serves(task, table)
    if not paper:
        raise NotKept("serves")
    return each_once([(page, task.sight_of(state)) for state, page in paper.spots])


def one_form(task, table):
    """The one form of a table that serves: its needed cells alone, and their pages as they are first mentioned."""
    cells = needed(task, table)
    pages = {1: 1}
    for page, sight in cells:
        after = table.entry_of(page, sight)[1]
        pages[after] = pages.get(after, len(pages) + 1)
    entries = []
    for page, sight in cells:
        deed, after = table.entry_of(page, sight)
        entries.append((pages[page], sight, deed, pages[after]))
    return Table(len(pages), entries)


def same_in(task, one, other):
    """Whether two tables are the same in a task."""
    check_task(task)
    check_table(one, "one")
    check_table(other, "other")
    check_deeds_known(task, one)
    check_deeds_known(task, other)
    return one_form(task, one) == one_form(task, other)


def meanings(task, table):
    """The pairs of a page to which plays come and its meaning, of a table that holds."""
    paper = holds(task, table)
    if not paper:
        raise NotKept("serves" if paper.word == "lacks" else "holds")
    pages = {}
    for state, page, kept in paper.triples:
        pages.setdefault(page, []).append((state, kept))
    return tuple([(page, in_order(task.world, task.watch, pages[page])) for page in sorted(pages)])
