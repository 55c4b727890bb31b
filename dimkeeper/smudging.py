"""What may be when another page lies open than the one that was written.

A case is (state, page, watch state, left): so many smudges can still come, None for any number.
"""

from dimkeeper.watches import Watch


class Smudging:
    """The cases of a task and a notebook of so many pages."""

    def __init__(self, task, pages, smudges):
        self.task = task
        self.pages = pages
        self.many = smudges.many
        labels = smudges.labels
        self._smudged = {state: labels is None or task.world.label_of(state) in labels for state in task.world}
        self._sights = {state: task.sight_of(state) for state in task.world}

    def first_cases(self):
        """The cases at which plays begin, in order."""
        return [(state, 1, kept, self.many) for state, kept in self.task.standing]

    def cell_at(self, case):
        """The cell that is asked at a case."""
        return case[1], self._sights[case[0]]

    def place_behind(self, case, deed):
        """The place behind a deed at a case."""
        return self.task.place_of((case[0], case[2]), deed)

    def can_come(self, case):
        """Whether a smudge can come behind the deed at a case."""
        return self._smudged[case[0]] and case[3] != 0

    def led_by(self, case, entry):
        """The cases to which a case leads by an entry, a deed and a next page, in order; None if the deed breaks."""
        deed, page = entry
        place = self.place_behind(case, deed)
        if place == Watch.BROKEN:
            return None
        left = case[3]
        others = []
        if self.can_come(case):
            others = [other for other in range(1, self.pages + 1) if other != page]
        fewer = None if left is None else left - 1
        behind = []
        for state in self.task.world.nexts(case[0], deed):
            behind.append((state, page, place, left))
            behind.extend([(state, other, place, fewer) for other in others])
        return behind

    def leads(self, entries, case):
        """The cases to which a case leads, in order; None if its cell lacks an entry, or the deed breaks."""
        cell = self.cell_at(case)
        return self.led_by(case, entries[cell]) if cell in entries else None
