"""How long the plays of a table, or of some answers of one, wait."""

from dimkeeper.orders import come_about, each_once
from dimkeeper.walks import walk_until, way_to


class Asking:
    """Which spots of a task ask and answer, and where entries, told by their cells, lead; a spot is (state, page)."""

    def __init__(self, task, wait):
        self.task = task
        self._sights = {state: task.sight_of(state) for state in task.states}
        self._asking = {state: wait.is_asked(task.world.label_of(state)) for state in task.states}
        self._answering = {state: wait.is_answer(task.world.label_of(state)) for state in task.states}

    def asks(self, spot):
        """Whether the state of a spot shows an asked label."""
        return self._asking[spot[0]]

    def answered_at(self, spot):
        """Whether the state of a spot shows an answer."""
        return self._answering[spot[0]]

    def first_spots(self):
        """The spots at which plays begin, in order."""
        return each_once([(state, 1) for state, kept in self.task.standing])

    def behind(self, entries, spot):
        """The spots behind a spot, in order; none if its cell is not answered."""
        cell = (spot[1], self._sights[spot[0]])
        if cell not in entries:
            return ()
        deed, page = entries[cell]
        return [(state, page) for state in self.task.world.nexts(spot[0], deed)]

    def waits_at(self, entries, spot):
        """The spots at which a wait goes on that is not over at this one."""
        return () if self.answered_at(spot) else self.behind(entries, spot)


class Waiting:
    """The waits in all plays by some entries.

    The run of a waiting spot is how many moments without an answer follow one another from it on at most, as far as
    the entries lead; it is more than there are spots where the wait never ends.
    """

    def __init__(self, asking, entries):
        self.asking = asking
        self.entries = entries
        self._ahead = walk_until(asking.first_spots(), lambda spot: asking.behind(entries, spot))[0]
        self._firsts = [spot for spot in self._ahead if asking.asks(spot)]
        self._met = come_about(self._firsts, lambda spot: asking.waits_at(entries, spot))
        self._runs = self._worked_out()

    def _worked_out(self):
        users = {spot: [] for spot in self._met}
        left = {}
        for spot in self._met:
            behind = self.asking.waits_at(self.entries, spot)
            left[spot] = len(behind)
            for after in behind:
                users[after].append(spot)
        longest = {spot: 0 for spot in self._met}
        runs = {}
        due = [spot for spot in self._met if left[spot] == 0]
        while due:
            spot = due.pop()
            runs[spot] = 0 if self.asking.answered_at(spot) else longest[spot] + 1
            for user in users[spot]:
                longest[user] = max(longest[user], runs[spot])
                left[user] -= 1
                if left[user] == 0:
                    due.append(user)
        return runs

    def run_of(self, spot):
        """The run of a waiting spot."""
        return self._runs.get(spot, len(self._ahead) + 1)

    def is_endless(self, spot):
        """Whether the wait of a waiting spot may never end."""
        return spot not in self._runs

    def waited_at(self):
        """The waiting spots, in the order of the walk."""
        among = {spot: True for spot in self._met}
        return [spot for spot in self._ahead if spot in among]

    def longest(self):
        """The first spot that asks of those with the longest run, or None if none asks."""
        runs = [self.run_of(spot) for spot in self._firsts]
        return self._firsts[runs.index(max(runs))] if runs else None

    def first_late(self, many):
        """The first spot that asks and can be late for so many moments, for ever where many is None, or None."""
        for spot in self._firsts:
            # Another table may have waited longer than these entries have spots, but not longer than for ever.
            if self.is_endless(spot) or (many is not None and self.run_of(spot) >= many):
                return spot
        return None

    def waits_on(self, spot):
        """Behind a spot without an answer, the first one of those with the longest run."""
        behind = self.asking.waits_at(self.entries, spot)
        runs = [self.run_of(after) for after in behind]
        return behind[runs.index(max(runs))]

    def play_to(self, spot, many):
        """The states of a play up to a spot that asks, and of so many moments of its longest wait, it itself one."""
        way = way_to(self._ahead, spot)
        for _ in range(many - 1):
            way.append(self.waits_on(way[-1]))
        return [state for state, page in way]

    def ring_from(self, spot):
        """The states of a ring at the spot of which an endless wait begins, and the moment at which it closes."""
        way = way_to(self._ahead, spot)
        seen = {spot: len(way) - 1}
        while True:
            after = self.waits_on(way[-1])
            way.append(after)
            if after in seen:
                return [state for state, page in way], seen[after]
            seen[after] = len(way) - 1


def late_play(waiting, many):
    """The states of a play that is late for so many moments, of a ring where many is None; or None."""
    spot = waiting.first_late(many)
    if spot is None:
        return None
    return waiting.ring_from(spot)[0] if many is None else waiting.play_to(spot, max(many, 1))


def greatest_delay(waiting):
    """The delay of the table with these entries, None if it has none."""
    spot = waiting.longest()
    if spot is None:
        return 0
    return None if waiting.is_endless(spot) else waiting.run_of(spot) + 1


def entries_by_cell(table):
    """The deed and the next page of each cell of a table."""
    return {(page, sight): (deed, after) for page, sight, deed, after in table.entries}
