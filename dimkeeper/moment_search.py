"""The whole search for a table that keeps many moments."""

from dimkeeper.refuse import whole_tree
from dimkeeper.search import Search


class MomentSearch(Search):
    """Has a leaf only where a play by the answers above breaks at this moment or ahead of it."""

    def __init__(self, task, k, moment):
        super().__init__(task, k)
        self.moment = moment

    def _is_leaf(self):
        play = self.shortest_break()
        return play is not None and len(play[1]) <= self.moment + 1


def most_moments(task, k):
    """The greatest number of moments that a table of at most k pages keeps, the entries of such a table, () for
    number 0, and a tree that shows it; no table of at most k pages holds."""
    search = MomentSearch(task, k, 0)
    entries = ()
    while search.goes_to_end():
        entries = search.end_table().entries
        # From here on only tables that keep more are of use.
        search.moment = len(search.shortest_break()[1]) - 1
    return search.moment, entries, whole_tree(MomentSearch(task, k, search.moment))
