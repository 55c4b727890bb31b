"""The sets of states of a world that come about, each one the states behind some row."""

from dimkeeper.errors import TooMany
from dimkeeper.orders import order_of
from dimkeeper.rows import MOST_SETS


class StateSets:
    """Sets of states of a world: integers, in which each state has a bit of its own, the first one the lowest.

    Sets that come about are each state alone, the starts with one label, and those to which these lead.
    """

    def __init__(self, world):
        self.world = world
        self._order = order_of(world.states)
        self._nexts = {(state, deed): self.set_of(world.nexts(state, deed))
                       for state in world.states for deed in world.deeds}
        self._labelled = {label: 0 for label in sorted(world.labels)}
        for state in world.states:
            label = world.label_of(state)
            self._labelled[label] = self._labelled[label] | self.set_of((state,))
        self.firsts = self.shared_out(self.set_of(world.starts))
        self._behind = {}

    def set_of(self, states):
        """The set of these states."""
        bits = 0
        for state in states:
            bits = bits | 1 << self._order[state]
        return bits

    def states_of(self, bits):
        """The tuple of the states of a set, in order."""
        return tuple([state for at, state in enumerate(self.world.states) if bits >> at & 1])

    def nexts_of(self, states, deed):
        """The set of the next states of these states under a deed."""
        bits = 0
        for state in states:
            bits = bits | self._nexts[state, deed]
        return bits

    def shared_out(self, bits):
        """For each label of the states of a set, ascending, the set of those that have it."""
        return {label: bits & among for label, among in self._labelled.items() if bits & among}

    def behind(self, bits, deed):
        """For each label, ascending, the set to which a set leads by a deed."""
        if (bits, deed) not in self._behind:
            self._behind[bits, deed] = self.shared_out(self.nexts_of(self.states_of(bits), deed))
        return self._behind[bits, deed]

    def all_sets(self, most):
        """All sets that come about, as they are met; TooMany for more than most."""
        met = {self.set_of((state,)): True for state in self.world.states}
        for bits in self.firsts.values():
            met[bits] = True
        due = list(met)
        while due:
            if len(met) > most:
                raise TooMany("sets", most)
            bits = due.pop()
            for deed in self.world.deeds:
                for group in self.behind(bits, deed).values():
                    if group not in met:
                        met[group] = True
                        due.append(group)
        return list(met)


def check_sets(sets):
    """Raises TooMany if a world has more sets than are gone through."""
    sets.all_sets(MOST_SETS)
