"""The sets of states of a world that come about, each one the states behind some row."""

from dimkeeper.errors import TooMany
from dimkeeper.rows import MOST_SETS, by_label, states_behind


class StateSets:
    """The sets of a world: each state alone, the starts with one label, and those to which these lead.

    A set is the tuple of its states, in order; they have one label.
    """

    def __init__(self, world):
        self.world = world
        self.begun = {label: states for label, states in by_label(world, world.starts)}
        self._behind = {}

    def behind(self, states, deed):
        """The sets to which a set leads by a deed, by their labels ascending."""
        if (states, deed) not in self._behind:
            rows = by_label(self.world, states_behind(self.world, states, deed))
            self._behind[states, deed] = {label: group for label, group in rows}
        return self._behind[states, deed]

    def all_sets(self, most):
        """All of them, as they are met; TooMany for more than most, None is no bound."""
        met = {(state,): True for state in self.world.states}
        for states in self.begun.values():
            met[states] = True
        due = list(met)
        while due:
            if most is not None and len(met) > most:
                raise TooMany("sets", most)
            states = due.pop()
            for deed in self.world.deeds:
                for group in self.behind(states, deed).values():
                    if group not in met:
                        met[group] = True
                        due.append(group)
        return list(met)


def check_sets(sets):
    """Raises TooMany if a world has more sets than are gone through."""
    sets.all_sets(MOST_SETS)
