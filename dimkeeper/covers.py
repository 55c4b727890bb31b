"""Covers: rows of views, one for each page, within which what comes next lies again."""

from dimkeeper.checks import is_row
from dimkeeper.errors import BadView, TooMany
from dimkeeper.forced import Held
from dimkeeper.papers import Denial
from dimkeeper.steps import Steps, branches_met, ranks_of
from dimkeeper.tasks import MOST_PAGES, check_task

MOST_STANDS = 8


class Uncovered(Denial):
    """The page and the sight at which views fail to be a cover; page 0 for the standing."""

    def __init__(self, page, sight):
        super().__init__("uncovered", page, sight)
        self.page = self.parts[0]
        self.sight = self.parts[1]


def members(view):
    """The stands of a view, as lies_within asks for them."""
    return {number: True for number in view}


def lies_within(view, among):
    """Whether all stands of a view, told by numbers, are among these members of a view."""
    return all([number in among for number in view])


def cover_by(task, views):
    """A Held with the views as its pages, if they are a cover, otherwise an Uncovered."""
    check_task(task)
    steps = Steps(task)
    pages = [steps.viewed(view) for view in views] if is_row(views) else []
    if not pages or None in pages:
        raise BadView("views")
    if len(pages) > MOST_PAGES:
        raise TooMany("pages", MOST_PAGES)
    wide = [members(page) for page in pages]
    if not lies_within(steps.begun(), wide[0]):
        return Uncovered(0, None)
    entries = []
    for at, page in enumerate(pages):
        for sight, part in steps.splits(page):
            entry = covering_entry(steps, wide, part)
            if entry is None:
                return Uncovered(at + 1, sight)
            entries.append((at + 1, sight, entry[0], entry[1]))
    return Held(views, entries)


def covering_entry(steps, wide, view):
    """The first deed whose next view lies within one of the pages, and the first such page, or None."""
    for deed in steps.deeds:
        after = steps.following(view, deed)
        if after is None:
            continue
        for at, among in enumerate(wide):
            if lies_within(after, among):
                return deed, at + 1
    return None


def widest(task):
    """The held views after a sight that lie within no other such view."""
    check_task(task)
    steps = Steps(task)
    shown = steps.split_views(steps.numbers_of(task.stands()))
    if any([len(view) > MOST_STANDS for view in shown]):
        raise TooMany("stands", MOST_STANDS)
    parts = [parts_of(view) for view in shown]
    # What lies behind a view of stands that come about is such a view, too.
    ranks = ranks_of(branches_met(steps, [view for row in parts for view in row], None))
    held = [[view for view in row if ranks[view] is None] for row in parts]
    return tuple([steps.view_of(view) for row in held for view in widest_of(row)])


def widest_of(views):
    """Those of these views that lie within no other one."""
    wide = [members(view) for view in views]
    return [view for view in views
            if not any([len(among) > len(view) and lies_within(view, among) for among in wide])]


def parts_of(view):
    """All views that lie within a view, in the order of their first stands that differ."""
    parts = [()]
    for number in view:
        parts = parts + [(*part, number) for part in parts]
    return sorted(parts)[1:]
