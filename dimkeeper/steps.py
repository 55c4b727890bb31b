"""What deeds do to the views of a task; stands are numbered in their order, and views are tuples of numbers."""

from dimkeeper.checks import is_row
from dimkeeper.errors import TooMany
from dimkeeper.orders import order_of
from dimkeeper.stands import is_stand
from dimkeeper.watches import Watch

MOST_VIEWS = 1000


class Steps:
    """The steps of a task, each worked out once."""

    def __init__(self, task):
        self.task = task
        self.deeds = task.world.deeds
        self._state_at = order_of(task.world.states)
        self._place_at = order_of(task.watch.states)
        self._sights = [task.sight_of(state) for state in task.world.states]
        self._behind = {}

    def number_of(self, stand):
        """The number of a stand."""
        return self._state_at[stand[0]] * len(self._place_at) + self._place_at[stand[1]]

    def stand_of(self, number):
        """The stand with a number."""
        many = len(self._place_at)
        return self.task.world.states[number // many], self.task.watch.states[number % many]

    def numbers_of(self, stands):
        """The numbers of these stands, in order."""
        return tuple([self.number_of(stand) for stand in stands])

    def view_of(self, numbers):
        """The stands with these numbers."""
        return tuple([self.stand_of(number) for number in numbers])

    def sight_at(self, number):
        """What the state of a stand shows."""
        return self._sights[number // len(self._place_at)]

    def viewed(self, value):
        """The numbers of any value that is a view of the task; None if it is none."""
        if not is_row(value) or len(value) == 0:
            return None
        if not all([is_stand(self.task.world, self.task.watch, stand) for stand in value]):
            return None
        numbers = self.numbers_of(value)
        return numbers if all([ahead < behind for ahead, behind in zip(numbers, numbers[1:])]) else None

    def behind(self, number, deed):
        """The numbers of the stands to which a deed leads from a stand; None if it breaks there."""
        if (number, deed) not in self._behind:
            stand = self.stand_of(number)
            place = self.task.place_of(stand, deed)
            after = None
            if place != Watch.BROKEN:
                after = [self.number_of((state, place)) for state in self.task.world.nexts(stand[0], deed)]
            self._behind[number, deed] = after
        return self._behind[number, deed]

    def fault(self, view, deed):
        """The first stand of a view at which a deed breaks it, a number, or None."""
        for number in view:
            if self.behind(number, deed) is None:
                return number
        return None

    def following(self, view, deed):
        """The next view under a deed, or None if the deed breaks the view."""
        if self.fault(view, deed) is not None:
            return None
        return tuple(sorted({after for number in view for after in self.behind(number, deed)}))

    def splits(self, view):
        """The pairs of a sight that a view shows, and the view behind it, in the order of the sights."""
        shown = {}
        for number in view:
            shown.setdefault(self.sight_at(number), []).append(number)
        return tuple([(sight, tuple(shown[sight])) for sight in sorted(shown)])

    def split_views(self, view):
        """The views of the splits of a view."""
        return tuple([part for sight, part in self.splits(view)])

    def begun(self):
        """The numbers of the stands of the standing."""
        return self.numbers_of(self.task.standing)


def branches_met(steps, firsts, most):
    """For each view that comes about from these on, as they are met: for each deed None, if it breaks the view,
    or the views of the splits of its next view. TooMany for more views than most; None is no bound."""
    met = list(firsts)
    branches = {view: None for view in met}
    at = 0
    while at < len(met):
        if most is not None and len(met) > most:
            raise TooMany("views", most)
        rows = branches_of(steps, met[at])
        branches[met[at]] = rows
        for part in [view for parts in rows if parts is not None for view in parts]:
            if part not in branches:
                branches[part] = None
                met.append(part)
        at += 1
    return branches


def branches_of(steps, view):
    """For each deed None, if it breaks the view, or the views of the splits of its next view."""
    following = [steps.following(view, deed) for deed in steps.deeds]
    return [None if after is None else steps.split_views(after) for after in following]


def ranks_of(branches):
    """The rank of each view, None for those that are held."""
    ranks = {view: None for view in branches}
    # How many deeds of each view are not beaten yet, and which deeds of which views a lost view beats.
    unbeaten = {view: len([parts for parts in branches[view] if parts is not None]) for view in branches}
    beats = {view: [] for view in branches}
    for view, rows in branches.items():
        for at, parts in enumerate(rows):
            for part in () if parts is None else parts:
                beats[part].append((view, at))
    beaten = {}
    lost = [view for view in branches if unbeaten[view] == 0]
    rank = 1
    while lost:
        for view in lost:
            ranks[view] = rank
        users = [user for view in lost for user in beats[view]]
        lost = lost_by(users, beaten, unbeaten)
        rank += 1
    return ranks


def lost_by(users, beaten, unbeaten):
    """The views that are lost because these deeds, pairs of a view and a place, are beaten, too."""
    lost = []
    for user in users:
        if user not in beaten:
            beaten[user] = True
            unbeaten[user[0]] -= 1
            if unbeaten[user[0]] == 0:
                lost.append(user[0])
    return lost
