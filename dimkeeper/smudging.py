"""What may be when another page lies open than the one that was written.

A case is (state, page, watch state, left): so many smudges can still come, None for any number.
"""

from dimkeeper.watches import Watch


class Smudging:
    """The cases of a task and a notebook of so many pages."""

    def __init__(self, task, pages, smudges):
        self.task = task
        self.pages = pages
        self.many = smudges.many
        labels = smudges.labels
        self._smudged = {state: labels is None or task.world.label_of(state) in labels for state in task.world}
        self._sights = {state: task.sight_of(state) for state in task.world}

    def first_cases(self):
        """The cases at which plays begin, in order."""
        return [(state, 1, kept, self.many) for state, kept in self.task.standing]

    def cell_at(self, case):
        """The cell that is asked at a case."""
        return case[1], self._sights[case[0]]

    def place_behind(self, case, deed):
        """The place behind a deed at a case."""
        return self.task.place_of((case[0], case[2]), deed)

    def can_come(self, case):
        """Whether a smudge can come behind the deed at a case."""
        return self._smudged[case[0]] and case[3] != 0

    def led_by(self, case, entry, told):
        """The cases to which a case leads by an entry, a deed and a next page, in order; None if the deed breaks.

        Cases behind a smudge are left out that an earlier call with this dict has told.
        """
        deed, page = entry
        place = self.place_behind(case, deed)
        if place == Watch.BROKEN:
            return None
        left = case[3]
        fewer = None if left is None else left - 1
        behind = []
        for state in self.task.world.nexts(case[0], deed):
            behind.append((state, page, place, left))
            if self.can_come(case):
                others = self._others(page, (state, place, fewer), told)
                behind.extend([(state, other, place, fewer) for other in others])
        return behind

    def _others(self, page, group, told):
        """The other pages, but for those that were told for a group of cases that differ in their pages alone."""
        if group not in told:
            told[group] = page
            return [other for other in range(1, self.pages + 1) if other != page]
        missing = told[group]
        if missing is None or missing == page:
            return []
        told[group] = None
        return [missing]

    def leads(self, entries, case, told):
        """The cases to which a case leads, as led_by tells; None if its cell lacks an entry, or the deed breaks."""
        cell = self.cell_at(case)
        return self.led_by(case, entries[cell], told) if cell in entries else None
