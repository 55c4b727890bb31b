"""Whether a Held or a Lost is right for a task."""

from dimkeeper.checks import is_one_of, is_within, twice
from dimkeeper.covers import lies_within, members
from dimkeeper.forced import Held, Lost
from dimkeeper.papers import is_called
from dimkeeper.steps import Steps
from dimkeeper.tasks import check_task


def shows_held(task, value):
    """Whether value is a right Held."""
    check_task(task)
    if not isinstance(value, Held) or not is_called(value, "Held"):
        return False
    steps = Steps(task)
    pages = viewed_all(steps, value.pages)
    if not pages or not lies_within(steps.begun(), members(pages[0])):
        return False
    return are_entries(steps, pages, value.entries)


def viewed_all(steps, views):
    """The numbers of each of these views, or None if they are told otherwise."""
    if not isinstance(views, tuple):
        return None
    viewed = [steps.viewed(view) for view in views]
    return None if None in viewed else viewed


def are_entries(steps, pages, entries):
    """Whether there is just one right entry for each page and each of its splits, and no other one."""
    cells = {(at + 1, sight): part for at, page in enumerate(pages) for sight, part in steps.splits(page)}
    if not isinstance(entries, tuple) or not all([is_entry(steps, len(pages), entry) for entry in entries]):
        return False
    told = [(page, sight) for page, sight, deed, after in entries]
    if sorted(told) != sorted(cells):
        return False
    wide = [members(page) for page in pages]
    for page, sight, deed, after in entries:
        following = steps.following(cells[page, sight], deed)
        if following is None or not lies_within(following, wide[after - 1]):
            return False
    return True


def is_entry(steps, many, value):
    """Whether a value has a page, a sight, a deed and a page, of so many pages."""
    if not isinstance(value, tuple) or len(value) != 4:
        return False
    if not is_within(value[0], 1, many) or not is_within(value[3], 1, many):
        return False
    return isinstance(value[1], str) and is_one_of(value[2], steps.deeds)


def shows_lost(task, value):
    """Whether value is a right Lost."""
    check_task(task)
    if not isinstance(value, Lost) or not is_called(value, "Lost") or not is_within(value.number, 1, None):
        return False
    steps = Steps(task)
    return is_ranked(steps, value.ranked, value.number) and is_kept(steps, value.kept, value.number)


def viewed_lines(steps, lines):
    """The views of lines, as numbers; None unless they are triples of views after a sight, none twice,
    of integers from 1 on, and of anything."""
    if not isinstance(lines, tuple) or not all([isinstance(line, tuple) and len(line) == 3 for line in lines]):
        return None
    views = viewed_all(steps, tuple([line[0] for line in lines]))
    if views is None or twice(views) or not all([is_within(line[1], 1, None) for line in lines]):
        return None
    return views if all([len(steps.splits(view)) == 1 for view in views]) else None


def is_ranked(steps, lines, number):
    """Whether these lines show that the promise is broken by moment number - 1."""
    views = viewed_lines(steps, lines)
    if not views or lines[0][1] > number:
        return False
    begun = [members(view) for view in steps.split_views(steps.begun())]
    if not any([lies_within(views[0], among) for among in begun]):
        return False
    ranked = {view: line[1] for view, line in zip(views, lines)}
    return all([are_replies(steps, ranked, view, line[2]) for view, line in zip(views, lines)])


def are_replies(steps, ranked, view, replies):
    """Whether there is a right reply of a line to each deed."""
    if not isinstance(replies, tuple) or len(replies) != len(steps.deeds):
        return False
    return all([is_reply(steps, ranked, view, deed, reply) for deed, reply in zip(steps.deeds, replies)])


def is_reply(steps, ranked, view, deed, reply):
    """Whether the reply is a stand at which the deed breaks the view, or a sight with a line of lesser rank."""
    stand = steps.viewed((reply,))
    if stand is not None:
        return stand[0] in view and steps.behind(stand[0], deed) is None
    after = steps.following(view, deed)
    shown = {} if after is None else {sight: part for sight, part in steps.splits(after)}
    if not isinstance(reply, str) or reply not in shown:
        return False
    return has_lesser(ranked, shown[reply], ranked[view])


def has_lesser(ranked, view, rank):
    """Whether a line of lesser rank has a view that lies within this one."""
    if ranked.get(view, rank) < rank:
        return True
    among = members(view)
    for other, least in ranked.items():
        if least < rank and lies_within(other, among):
            return True
    return False


def is_kept(steps, lines, number):
    """Whether these lines show that number - 1 moments can be kept."""
    views = viewed_lines(steps, lines)
    if views is None or not all([is_one_of(line[2], steps.deeds) for line in lines]):
        return False
    moments = {view: line[1] for view, line in zip(views, lines)}
    if not all([moments.get(view, 0) >= number - 1 for view in steps.split_views(steps.begun())]):
        return False
    return all([is_kept_line(steps, moments, view, line[2]) for view, line in zip(views, lines)])


def is_kept_line(steps, moments, view, deed):
    """Whether the deed keeps the view, and leaves as many moments as are wanted behind it."""
    after = steps.following(view, deed)
    if after is None:
        return False
    wanted = moments[view] - 1
    return all([moments.get(part, 0) >= wanted for part in steps.split_views(after)])
