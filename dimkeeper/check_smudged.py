"""Whether what smudges do to a notebook is told rightly."""

from dimkeeper.check_closed import are_closed, is_triple
from dimkeeper.checks import is_one_of, is_within
from dimkeeper.papers import is_called
from dimkeeper.smudge_search import Firm, Steady, Unfirm
from dimkeeper.smudges import Slips, Stays, check_smudged, check_smudges
from dimkeeper.smudging import Smudging
from dimkeeper.tables import Table, is_table
from dimkeeper.tasks import MOST_PAGES, check_task
from dimkeeper.waiting import entries_by_cell
from dimkeeper.watches import Watch


def shows_stays(task, table, smudges, value):
    """Whether value is a right Stays or a right Slips of a table."""
    check_smudged(task, table, smudges)
    if isinstance(value, Stays) and is_called(value, "Stays"):
        return are_cases(task, table, smudges, value.cases)
    if not isinstance(value, Slips) or not is_called(value, "Slips"):
        return False
    smudging = Smudging(task, table.pages, smudges)
    entries = entries_by_cell(table)
    cases = cases_along(smudging, entries, value.first, (value.states, value.pages))
    return cases is not None and smudging.leads(entries, cases[-1], {}) is None


def are_cases(task, table, smudges, cases):
    """Whether these cases, none twice, are closed."""
    if not isinstance(cases, tuple):
        return False
    if not all([isinstance(case, tuple) and len(case) == 4 and is_triple(task, case[:3]) for case in cases]):
        return False
    many = smudges.many
    if not all([case[3] is None if many is None else is_within(case[3], 0, many) for case in cases]):
        return False
    smudging = Smudging(task, table.pages, smudges)
    entries = entries_by_cell(table)
    told = {}
    return are_closed(cases, smudging.first_cases(), lambda case: smudging.leads(entries, case, told))


def cases_along(smudging, entries, first, rows):
    """The cases of a play along states and pages, which begins with a watch state; None if there is none, or if it
    breaks or lacks an entry ahead of its end."""
    states, pages = rows
    if not isinstance(states, tuple) or not isinstance(pages, tuple) or not states or len(states) != len(pages):
        return None
    if not all([is_within(page, 1, smudging.pages) for page in pages]):
        return None
    cases = [case for case in smudging.first_cases() if case[:3] == (states[0], pages[0], first)]
    for state, page in list(zip(states, pages))[1:]:
        behind = smudging.leads(entries, cases[-1], {}) if cases else None
        found = [case for case in behind or () if case[:2] == (state, page)]
        if not found:
            return None
        cases.append(found[0])
    return cases if cases else None


def shows_firm(task, smudges, value):
    """Whether value is a right Firm, a right Unfirm or a right Steady."""
    check_task(task)
    check_smudges(smudges)
    if isinstance(value, Steady) and is_called(value, "Steady"):
        return is_steady(task, smudges, value)
    return is_firm(task, smudges, value) or is_unfirm(task, smudges, value)


def is_steady(task, smudges, value):
    """Whether the parts of a Steady are right."""
    if not is_within(value.number, 1, None) or not is_firm(task, smudges, value.firm):
        return False
    if value.firm.pages != value.number:
        return False
    if value.number == 1:
        return value.unfirm is None
    return is_unfirm(task, smudges, value.unfirm) and value.unfirm.pages == value.number - 1


def is_firm(task, smudges, value):
    """Whether any value is a right Firm."""
    if not isinstance(value, Firm) or not is_called(value, "Firm") or not is_table(value.pages, value.entries):
        return False
    if not all([entry[2] in task.world.deeds for entry in value.entries]):
        return False
    return are_cases(task, Table(value.pages, value.entries), smudges, value.cases)


def is_unfirm(task, smudges, value):
    """Whether any value is a right Unfirm."""
    if not isinstance(value, Unfirm) or not is_called(value, "Unfirm") or not is_within(value.pages, 1, MOST_PAGES):
        return False
    if not isinstance(value.lines, tuple) or not all([is_line(task, value.pages, line) for line in value.lines]):
        return False
    smudging = Smudging(task, value.pages, smudges)
    return are_whole(task, value.pages, value.lines) and all([ends_well(smudging, line) for line in value.lines])


def is_line(task, k, value):
    """Whether a value is four parts, the first one a row of answers of k pages."""
    if not isinstance(value, tuple) or len(value) != 4 or not isinstance(value[0], tuple):
        return False
    return all([is_answer_of(task, k, answer) for answer in value[0]])


def is_answer_of(task, k, value):
    """Whether a value is an entry of a notebook of k pages, over the sights of the blur and the deeds of the world."""
    if not isinstance(value, tuple) or len(value) != 4:
        return False
    if not is_within(value[0], 1, k) or not is_within(value[3], 1, k):
        return False
    return is_one_of(value[1], task.blur.sights) and is_one_of(value[2], task.world.deeds)


def are_whole(task, k, lines):
    """Whether these lines are whole behind no answers."""
    due = [(lines, 0)]
    while due:
        group, many = due.pop()
        if len(group) == 1 and len(group[0][0]) == many:
            continue
        parts = parts_by_answer(group, many)
        if parts is None or len(parts) != len(task.world.deeds) * k:
            return False
        due.extend([(parts[answer], many + 1) for answer in parts])
    return True


def parts_by_answer(group, many):
    """The lines, which have the same first answers, so many, by the next one; None unless all have one, of the same
    cell, which is not answered ahead."""
    if not group or not all([len(line[0]) > many for line in group]):
        return None
    answered = [answer[:2] for answer in group[0][0][:many]]
    cell = group[0][0][many][:2]
    if cell in answered or not all([line[0][many][:2] == cell for line in group]):
        return None
    parts = {}
    for line in group:
        parts.setdefault(line[0][many], []).append(line)
    return parts


def ends_well(smudging, line):
    """Whether a line tells a play that breaks at its last moment, and at none ahead of it."""
    answers, first, states, pages = line
    entries = {answer[:2]: answer[2:] for answer in answers}
    cases = cases_along(smudging, entries, first, (states, pages))
    if cases is None or smudging.cell_at(cases[-1]) not in entries:
        return False
    return smudging.place_behind(cases[-1], entries[smudging.cell_at(cases[-1])][0]) == Watch.BROKEN
