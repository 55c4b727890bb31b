"""The whole search for a table that waits shortly."""

from dimkeeper.refuse import whole_tree
from dimkeeper.search import Search
from dimkeeper.trees import Leaf
from dimkeeper.waiting import Asking, Waiting, greatest_delay, late_play


class WaitSearch(Search):
    """Has a leaf also where a play by the answers above is late for so many moments, a ring where many is None."""

    def __init__(self, task, k, asking, many):
        super().__init__(task, k)
        self.asking = asking
        self.many = many

    def leaf_play(self):
        """The first stand, and the states, of the play with which a leaf ends."""
        play = self.shortest_break()
        if play is not None:
            return play
        states = self._late()
        return stand_at(self.task, states[0]), states

    def _is_leaf(self):
        return super()._is_leaf() or self._late() is not None

    def _late(self):
        return late_play(Waiting(self.asking, self._entries), self.many)


def stand_at(task, state):
    """The first stand of the standing with this state."""
    return [stand for stand in task.standing if stand[0] == state][0]


def shortest_wait(task, wait, k):
    """The least delay of the tables of the list of k, and the first such table; None if none has a delay."""
    asking = Asking(task, wait)
    search = WaitSearch(task, k, asking, None)
    found = None
    while search.goes_to_end():
        table = search.end_table()
        number = greatest_delay(Waiting(asking, {entry[:2]: entry[2:] for entry in search.given()}))
        found = (number, table)
        if number == 0:
            return found
        # From here on only tables that wait shorter are of use: others are late for one moment less.
        search.many = number - 1
    return found


def wait_tree(task, wait, k, many):
    """A tree for k pages at each leaf of which a play breaks or is late for so many moments, a ring where many is
    None; no table of at most k pages does without."""
    asking = Asking(task, wait)
    states = late_play(Waiting(asking, {}), many)
    if states is not None:
        return Leaf(stand_at(task, states[0])[1], states)
    return whole_tree(WaitSearch(task, k, asking, many))
