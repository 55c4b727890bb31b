"""The least number of pages that hold a task."""

from dimkeeper.forced import judge
from dimkeeper.keepers import first_kept
from dimkeeper.papers import Paper
from dimkeeper.refuse import refused


class Least(Paper):
    """So many pages hold the task, and fewer do not."""

    def __init__(self, number, kept, refusal):
        super().__init__("least", number, kept, refusal)
        self.number = self.parts[0]
        self.kept = self.parts[1]
        self.refusal = self.parts[2]


def keep(task, k):
    """The Kept of the first table of the list of k, or the Refusal of k pages if the list is empty."""
    paper = first_kept(task, k)
    return refused(task, k) if paper is None else paper


def least_pages(task):
    """The Lost of a task that is lost, otherwise the Least."""
    verdict = judge(task)
    if not verdict:
        return verdict
    number = 1
    paper = first_kept(task, number)
    while paper is None:
        number += 1
        paper = first_kept(task, number)
    return Least(number, paper, None if number == 1 else refused(task, number - 1))
