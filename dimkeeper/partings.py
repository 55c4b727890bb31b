"""Promises and tables that part worlds."""

from dimkeeper.among import check_comparable, rows_among
from dimkeeper.blurs import check_blur
from dimkeeper.checks import are_names, is_name, is_row
from dimkeeper.errors import BadTable, NoDeed, NoLabel
from dimkeeper.met_watch import met_watch
from dimkeeper.rows import check_row_told
from dimkeeper.stands import check_labels_known
from dimkeeper.tables import Table
from dimkeeper.tasks import Task
from dimkeeper.watches import check_signs
from dimkeeper.worlds import check_world


def parting_promise(row, labels, deeds):
    """The watch that lets no play go by a row to its end, and is free once another label shows."""
    check_row_told(row)
    check_signs(labels, deeds)
    for at, name in enumerate(row):
        if at % 2 == 0 and name not in labels:
            raise NoLabel(name)
        if at % 2 == 1 and name not in deeds:
            raise NoDeed(name)
    last = len(row) // 2
    free = last + 1

    def step(kept, label, deed):
        if kept == free or label != row[2 * kept]:
            return free
        return kept + 1 if kept < last and deed == row[2 * kept + 1] else None

    return met_watch(labels, deeds, 0, step)


def parting_table(row, deeds, sights):
    """The table that does the deeds of a row page by page, at each sight; without any the first of these deeds."""
    check_row_told(row)
    if not is_row(deeds) or len(deeds) == 0 or not all([is_name(deed) for deed in deeds]):
        raise BadTable("deeds")
    if not are_names(sights):
        raise BadTable("sights")
    for deed in row[1::2]:
        if deed not in deeds:
            raise NoDeed(deed)
    return Table.blind(sights, row[1::2] or deeds[:1])


def turned(one, other, blur):
    """None if the rows of one are among those of other; otherwise the tasks of both with the parting promise of the
    parting row, and the table that holds it in other."""
    check_world(one, "one")
    check_world(other, "other")
    check_blur(blur, "blur")
    check_comparable(one, other)
    check_labels_known(one, blur)
    check_labels_known(other, blur)
    paper = rows_among(one, other)
    if paper:
        return None
    watch = parting_promise(paper.row, blur.labels, one.deeds)
    return Task(one, blur, watch), Task(other, blur, watch), parting_table(paper.row, one.deeds, blur.sights)
