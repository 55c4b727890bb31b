"""The sets of states of a world that come about, each one the states behind some row."""

from dimkeeper.errors import TooMany
from dimkeeper.orders import order_of
from dimkeeper.rows import MOST_SETS


class StateSets:
    """The sets of a world: each state alone, the starts with one label, and those to which these lead.

    A set is the tuple of its states, in order; they have one label.
    """

    def __init__(self, world):
        self.world = world
        self.firsts = shared_out(world, world.starts)
        order = order_of(world.states)
        # The next states as bits, so that those of many states are soon put together.
        self._bits = {(state, deed): sum([1 << order[after] for after in world.nexts(state, deed)])
                      for state in world.states for deed in world.deeds}
        self._behind = {}

    def behind(self, states, deed):
        """The sets to which a set leads by a deed, by their labels ascending."""
        if (states, deed) not in self._behind:
            bits = 0
            for state in states:
                bits = bits | self._bits[state, deed]
            reached = [state for at, state in enumerate(self.world.states) if bits >> at & 1]
            self._behind[states, deed] = shared_out(self.world, reached)
        return self._behind[states, deed]

    def all_sets(self, most):
        """All of them, as they are met; TooMany for more than most."""
        met = {(state,): True for state in self.world.states}
        for states in self.firsts.values():
            met[states] = True
        due = list(met)
        while due:
            if len(met) > most:
                raise TooMany("sets", most)
            states = due.pop()
            for deed in self.world.deeds:
                for group in self.behind(states, deed).values():
                    if group not in met:
                        met[group] = True
                        due.append(group)
        return list(met)


def shared_out(world, states):
    """For each label of these states, ascending, the tuple of those that have it."""
    groups = {}
    for state in states:
        groups.setdefault(world.label_of(state), []).append(state)
    return {label: tuple(groups[label]) for label in sorted(groups)}


def check_sets(sets):
    """Raises TooMany if a world has more sets than are gone through."""
    sets.all_sets(MOST_SETS)
