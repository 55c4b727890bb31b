"""How many moments are sure where no table holds."""

from dimkeeper.keepers import first_kept
from dimkeeper.losing import losing
from dimkeeper.moment_search import most_moments
from dimkeeper.papers import Paper


class SureTime(Paper):
    """The greatest number of moments that a table keeps, the entries of such a table, and a tree which shows that
    none keeps more."""

    def __init__(self, number, table, tree):
        super().__init__("suretime", number, table, tree)
        self.number = self.parts[0]
        self.table = self.parts[1]
        self.tree = self.parts[2]


def moments_of(task, table):
    """The greatest number of moments that a table keeps, None if it holds."""
    paper = losing(task, table)
    return None if paper is None else len(paper.states) - 1


def sure_moments(task, k):
    """The Kept of the first table of the list of k, or a SureTime if the list is empty."""
    paper = first_kept(task, k)
    if paper is not None:
        return paper
    number, entries, tree = most_moments(task, k)
    return SureTime(number, entries, tree)
