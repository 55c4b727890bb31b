"""A foe that beats every keeper of a task that is lost."""

from dimkeeper.check_views import shows_lost
from dimkeeper.checks import is_one_of
from dimkeeper.covers import lies_within, members
from dimkeeper.errors import BadPaper, Ended, NoDeed, NotNow
from dimkeeper.paths import first_path
from dimkeeper.steps import Steps
from dimkeeper.tasks import check_task


class Foe:
    """What a keeper meets that cannot win."""

    def __init__(self, task, lost):
        check_task(task)
        if not shows_lost(task, lost):
            raise BadPaper("lost")
        self.task = task
        self.lost = lost
        self._line = lost.ranked[0]
        self.sight = task.sight_of(self._line[0][0][0])
        self.moment = 0
        self.log = (self.sight,)

    def do(self, deed):
        """The sight that comes behind a deed, or None if the deed breaks the promise."""
        if self.sight is None:
            raise Ended()
        if not is_one_of(deed, self.task.world.deeds):
            raise NoDeed(deed)
        reply = self._line[2][self.task.world.deeds.index(deed)]
        if isinstance(reply, str):
            self._line = self._line_behind(deed, reply)
            self.sight = reply
            self.moment += 1
            self.log = (*self.log, deed, reply)
        else:
            self.sight = None
            self.log = (*self.log, deed)
        return self.sight

    def _line_behind(self, deed, sight):
        steps = Steps(self.task)
        shown = steps.splits(steps.following(steps.numbers_of(self._line[0]), deed))
        among = members([part for name, part in shown if name == sight][0])
        lines = [line for line in self.lost.ranked
                 if line[1] < self._line[1] and lies_within(steps.numbers_of(line[0]), among)]
        return lines[0]

    def way(self):
        """The first stands that show what was told, and at the last of which the last deed breaks."""
        if self.sight is not None:
            raise NotNow("way")
        steps = Steps(self.task)
        sights, deeds = self.log[::2], self.log[1::2]
        layers = [shown_by(steps, steps.begun(), sights[0])]
        for deed, sight in zip(deeds, sights[1:]):
            behind = sorted({after for number in layers[-1] for after in steps.behind(number, deed) or ()})
            layers.append(shown_by(steps, behind, sight))
        layers[-1] = [number for number in layers[-1] if steps.behind(number, deeds[-1]) is None]
        return steps.view_of(first_path(layers, lambda at, number: steps.behind(number, deeds[at]) or ()))

    def twin(self):
        """Another foe that stands where this one does."""
        foe = Foe(self.task, self.lost)
        for deed in self.log[1::2]:
            foe.do(deed)
        return foe


def shown_by(steps, numbers, sight):
    """Those of the stands whose states show the sight."""
    return [number for number in numbers if steps.sight_at(number) == sight]
