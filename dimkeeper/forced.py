"""Whether a task is held or lost, and by which views."""

from dimkeeper.errors import BadView
from dimkeeper.papers import Denial, Paper
from dimkeeper.steps import MOST_VIEWS, Steps, branches_met, ranks_of
from dimkeeper.tasks import check_task
from dimkeeper.views import checked_view


class Held(Paper):
    """A cover, one view for each page, and its entries."""

    def __init__(self, pages, entries):
        super().__init__("held", pages, entries)
        self.pages = self.parts[0]
        self.entries = self.parts[1]


class Lost(Denial):
    """A ranked list of views that breaks every keeper, and what can be kept all the same."""

    def __init__(self, number, ranked, kept):
        super().__init__("lost", number, ranked, kept)
        self.number = self.parts[0]
        self.ranked = self.parts[1]
        self.kept = self.parts[2]


def judge(task):
    """A Held, if the task is held, otherwise a Lost."""
    check_task(task)
    steps = Steps(task)
    begun = steps.split_views(steps.begun())
    ranks = ranks_of(branches_met(steps, begun, MOST_VIEWS))
    lost = [ranks[view] for view in begun if ranks[view] is not None]
    if not lost:
        return held_by(steps, ranks)
    number = min(lost)
    kept = () if number == 1 else kept_lines(steps, begun, ranks, number)
    return Lost(number, ranked_lines(steps, begun, ranks, number), kept)


def held_by(steps, ranks):
    """The Held of a task none of whose beginnings is lost."""
    pages = [steps.begun()]
    page_of = {pages[0]: 1}
    entries = []
    at = 0
    while at < len(pages):
        for sight, part in steps.splits(pages[at]):
            deed = holding_deed(steps, part, ranks)
            after = steps.following(part, deed)
            if after not in page_of:
                pages.append(after)
                page_of[after] = len(pages)
            entries.append((at + 1, sight, deed, page_of[after]))
        at += 1
    return Held([steps.view_of(page) for page in pages], entries)


def holding_deed(steps, view, ranks):
    """The first deed that does not break a held view, and behind which no view is lost."""
    deeds = [deed for deed in steps.deeds if least_rank(steps, view, deed, ranks) is None]
    return deeds[0]


def least_rank(steps, view, deed, ranks):
    """The least rank of the views of the splits behind a deed, 0 if it breaks, None if all are held."""
    after = steps.following(view, deed)
    if after is None:
        return 0
    found = [ranks[part] for part in steps.split_views(after) if ranks[part] is not None]
    return min(found, default=None)


def ranked_lines(steps, begun, ranks, number):
    """The lines that show that the promise is broken by moment number - 1."""
    met = [view for view in begun if ranks[view] == number][:1]
    seen = {met[0]: True}
    lines = []
    while len(lines) < len(met):
        view = met[len(lines)]
        replies = []
        for deed in steps.deeds:
            fault = steps.fault(view, deed)
            if fault is not None:
                replies.append(steps.stand_of(fault))
                continue
            sight, part = worst_split(steps, view, deed, ranks)
            replies.append(sight)
            if part not in seen:
                seen[part] = True
                met.append(part)
        lines.append((steps.view_of(view), ranks[view], replies))
    return lines


def worst_split(steps, view, deed, ranks):
    """The first split of the next view that has the least rank."""
    least = least_rank(steps, view, deed, ranks)
    worst = [split for split in steps.splits(steps.following(view, deed)) if ranks[split[1]] == least]
    return worst[0]


def kept_lines(steps, begun, ranks, number):
    """The lines that show that number - 1 moments can be kept."""
    met = list(begun)
    seen = {view: True for view in met}
    lines = []
    while len(lines) < len(met):
        view = met[len(lines)]
        rank = ranks[view]
        moments = rank - 1 if rank is not None and rank < number else number - 1
        deed = keeping_deed(steps, view, ranks, moments)
        lines.append((steps.view_of(view), moments, deed))
        behind = steps.split_views(steps.following(view, deed)) if moments > 1 else ()
        for part in behind:
            if part not in seen:
                seen[part] = True
                met.append(part)
    return lines


def keeping_deed(steps, view, ranks, moments):
    """The first deed that does not break a view, and behind which no view has a rank below moments."""
    least = {deed: least_rank(steps, view, deed, ranks) for deed in steps.deeds}
    deeds = [deed for deed in steps.deeds if least[deed] is None or least[deed] >= moments]
    return deeds[0]


def rank_of(task, view):
    """The rank of any view after a sight, or None if it is held."""
    steps, numbers = checked_view(task, view)
    if len(steps.splits(numbers)) > 1:
        raise BadView("view")
    return ranks_of(branches_met(steps, (numbers,), MOST_VIEWS))[numbers]
