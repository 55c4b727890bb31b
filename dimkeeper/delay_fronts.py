"""Pages traded against delays."""

from dimkeeper.delays import all_least_delays
from dimkeeper.papers import Paper


class DelayFront(Paper):
    """Where the least delay falls: points, a Never for fewer pages, and a pair of Patiences for each point."""

    def __init__(self, points, never, steps):
        super().__init__("delayfront", points, never, steps)
        self.points = self.parts[0]
        self.never = self.parts[1]
        self.steps = self.parts[2]


def delay_front(task, wait, most):
    """The DelayFront for 1 to most pages."""
    papers = all_least_delays(task, wait, most)
    patient = [k for k in range(1, most + 1) if papers[k - 1]]
    first = patient[0] if patient else most + 1
    pages = [k for k in patient if k == first or papers[k - 1].number < papers[k - 2].number]
    lasts = [after - 1 for after in [*pages[1:], most + 1]]
    never = papers[first - 2] if first > 1 else None
    steps = [(papers[k - 1], papers[last - 1]) for k, last in zip(pages, lasts)]
    return DelayFront([(k, papers[k - 1].number) for k in pages], never, steps)
