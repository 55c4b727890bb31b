"""Halls: one play of a task, followed as it happens."""

from dimkeeper.checks import is_one_of, is_within
from dimkeeper.errors import BadNumbers, Breaks, Nothing, NotNow
from dimkeeper.least import least_pages
from dimkeeper.steps import MOST_VIEWS, Steps, branches_met, ranks_of
from dimkeeper.stories import DO, SEE, Story, check_story, pairs_behind
from dimkeeper.tables import check_table
from dimkeeper.tasks import check_task
from dimkeeper.watches import Watch


class Hall:
    """Follows one play: what was seen and done, and what may be now."""

    def __init__(self, task):
        check_task(task)
        self.task = task
        self.moment = 0
        self.is_seen = False
        self.pairs = task.standing
        self._steps = []
        # What might be ahead of each step.
        self._past = []

    @property
    def story(self):
        """The story so far."""
        return Story(self._steps)

    @property
    def fate(self):
        """Whether the promise is kept, broken, or may be either."""
        broken = [pair for pair in self.pairs if is_broken(pair)]
        if not broken:
            return "kept"
        return "broken" if len(broken) == len(self.pairs) else "open"

    def see(self, sight):
        """Sees the sight of the moment."""
        if self.is_seen:
            raise NotNow("sight")
        return self._go((SEE, sight))

    def do(self, deed):
        """Does a deed."""
        if not self.is_seen:
            raise NotNow("deed")
        return self._go((DO, deed))

    def _go(self, step):
        behind = pairs_behind(self.task, self.pairs, step)
        self._past.append(self.pairs)
        self._steps.append(step)
        self._stand(behind)
        return behind

    def _stand(self, pairs):
        self.pairs = pairs
        self.moment = len(self._steps) // 2
        self.is_seen = len(self._steps) > 2 * self.moment

    def undo(self):
        """Takes the last step back and returns it."""
        if not self._steps:
            raise Nothing()
        step = self._steps.pop()
        self._stand(self._past.pop())
        return step

    def rank(self):
        """The least rank of what may be now: 0 if it may be broken, None if it is held."""
        if is_any_broken(self.pairs):
            return 0
        steps = Steps(self.task)
        firsts = steps.split_views(steps.numbers_of(self.pairs))
        ranks = ranks_of(branches_met(steps, firsts, MOST_VIEWS))
        lost = [ranks[view] for view in firsts if ranks[view] is not None]
        return min(lost) if lost else None

    def safe_deeds(self):
        """The deeds that break nowhere, and behind which nothing that is seen is lost."""
        if not self.is_seen:
            raise NotNow("deed")
        if is_any_broken(self.pairs):
            return ()
        steps = Steps(self.task)
        view = steps.numbers_of(self.pairs)
        branches = branches_met(steps, [view], MOST_VIEWS)
        ranks = ranks_of(branches)
        return tuple([deed for deed, parts in zip(steps.deeds, branches[view])
                      if parts is not None and all([ranks[part] is None for part in parts])])

    def least(self):
        """What least_pages tells of the task that begins with what may be now."""
        for pair in self.pairs:
            if is_broken(pair):
                raise Breaks(pair[0], pair[1])
        return least_pages(self.task.changed(standing=self.pairs))

    def told(self, table, page):
        """The entry of a table for a page and the sight that was seen last."""
        if not self.is_seen:
            raise NotNow("deed")
        check_table(table, "table")
        if not is_within(page, 1, None):
            raise BadNumbers("page")
        return table.entry_of(page, self._steps[-1][1])

    def followed(self, table, page):
        """Does the deed that a table tells for a page, and returns the next page."""
        deed, after = self.told(table, page)
        self.do(deed)
        return after

    def __eq__(self, other):
        return isinstance(other, Hall) and self.task == other.task and self._steps == other._steps


def is_broken(pair):
    """Whether the promise is broken at a pair."""
    return is_one_of(pair[1], (Watch.BROKEN,))


def is_any_broken(pairs):
    """Whether the promise may be broken."""
    return any([is_broken(pair) for pair in pairs])


def replayed(task, story):
    """A new hall with the steps of a story done."""
    check_task(task)
    check_story(story)
    hall = Hall(task)
    for kind, name in story.steps:
        if kind == SEE:
            hall.see(name)
        else:
            hall.do(name)
    return hall
