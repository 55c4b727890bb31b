"""Pages traded against sure moments."""

from dimkeeper.delays import check_most
from dimkeeper.moments import sure_moments
from dimkeeper.papers import Paper
from dimkeeper.search import check_searched
from dimkeeper.tasks import check_task


class MomentFront(Paper):
    """Where the sure moments rise: points, a pair of SureTimes for each, and the Kept of the least pages that hold."""

    def __init__(self, points, steps, kept):
        super().__init__("momentfront", points, steps, kept)
        self.points = self.parts[0]
        self.steps = self.parts[1]
        self.kept = self.parts[2]


def moment_front(task, most):
    """The MomentFront for 1 to most pages."""
    check_task(task)
    check_most(most)
    check_searched(task, most)
    papers = []
    kept = None
    while len(papers) < most and kept is None:
        paper = sure_moments(task, len(papers) + 1)
        if paper.word == "kept":
            kept = paper
        else:
            papers.append(paper)
    pages = [k for k in range(1, len(papers) + 1) if k == 1 or papers[k - 1].number > papers[k - 2].number]
    lasts = [after - 1 for after in [*pages[1:], len(papers) + 1]]
    steps = [(papers[k - 1], papers[last - 1]) for k, last in zip(pages, lasts)]
    return MomentFront([(k, papers[k - 1].number) for k in pages], steps, kept)
