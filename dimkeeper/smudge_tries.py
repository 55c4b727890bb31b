"""All ways to give the cells of a notebook that may be smudged an entry, as far as they come about."""

from dimkeeper.smudging import Smudging
from dimkeeper.walks import walk_until, way_to


class SmudgeTries:
    """The answers that are given now: one for each cell that was asked, the last one the first to be changed."""

    def __init__(self, task, pages, smudges):
        self.smudging = Smudging(task, pages, smudges)
        self._choices = [(deed, page) for deed in task.world.deeds for page in range(1, pages + 1)]
        self._entries = {}
        # How many answers were given to each cell that was asked, the cells in the order in which they were.
        self._tried = {}

    def given(self):
        """The answers, as entries."""
        return [(*cell, *entry) for cell, entry in self._entries.items()]

    def all_cases(self):
        """The cases that come about; all cells that are needed are answered."""
        told = {}
        firsts = self.smudging.first_cases()
        return list(walk_until(firsts, lambda case: self.smudging.leads(self._entries, case, told))[0])

    def ask(self, cell):
        """Gives the first answer to a cell."""
        self._tried[cell] = 1
        self._entries[cell] = self._choices[0]

    def goes_on(self):
        """Goes to the next answers; whether there are any."""
        while self._tried:
            cell = list(self._tried)[-1]
            del self._entries[cell]
            if self._tried[cell] < len(self._choices):
                self._entries[cell] = self._choices[self._tried[cell]]
                self._tried[cell] += 1
                return True
            del self._tried[cell]
        return False

    def explored(self):
        """A play that breaks by the answers, as a line has it, or None; and a cell that is not answered, or None.

        Where more smudges can still come all can come about that comes about with fewer: of the cases that differ in
        this alone just the one with most left is looked at.
        """
        ahead = {case: None for case in self.smudging.first_cases()}
        seen = {case[:3]: True for case in ahead}
        level = list(ahead)
        told = {}
        due = None
        while level:
            fewer = []
            at = 0
            while at < len(level):
                case = level[at]
                at += 1
                cell = self.smudging.cell_at(case)
                if cell not in self._entries:
                    due = cell if due is None else due
                    continue
                behind = self.smudging.led_by(case, self._entries[cell], told)
                if behind is None:
                    return told_play(way_to(ahead, case)), None
                fewer.extend([(after, case) for after in behind if after[3] != case[3]])
                level.extend(put_behind(ahead, seen, [(after, case) for after in behind if after[3] == case[3]]))
            level = put_behind(ahead, seen, fewer)
        return None, due


def put_behind(ahead, seen, pairs):
    """Puts cases, told with the case ahead of each, behind these, but for those that differ in what is left alone
    from one that was seen; returns the ones that are new."""
    new = []
    for case, last in pairs:
        if case[:3] not in seen:
            seen[case[:3]] = True
            ahead[case] = last
            new.append(case)
    return new


def told_play(way):
    """The first watch state, the states and the pages of the play along these cases."""
    return way[0][2], [case[0] for case in way], [case[1] for case in way]
