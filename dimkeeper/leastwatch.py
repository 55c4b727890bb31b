"""Least watches."""

from dimkeeper.judged import settled
from dimkeeper.met_watch import met_watch
from dimkeeper.orders import each_once, order_of
from dimkeeper.watches import check_watch


def least_watch(watch):
    """The least form of a watch."""
    check_watch(watch, "watch")
    calm = settled(watch)
    groups = alike_groups(calm)
    names = {groups[state]: state for state in calm.states}

    def step(group, label, deed):
        return groups.get(calm.place_of(names[group], label, deed), None)

    return met_watch(calm.labels, calm.deeds, groups[calm.first], step)


def alike_groups(watch):
    """The number of a group for each watch state of a settled watch; those that are alike have the same one."""
    groups = {state: 0 for state in watch.states}
    many = 1
    while True:
        # States stay in one group as long as the same signs break there, or lead to the same groups.
        marks = {state: marks_of(watch, state, groups) for state in watch.states}
        numbers = order_of(each_once(list(marks.values())))
        groups = {state: numbers[marks[state]] for state in watch.states}
        if len(numbers) == many:
            return groups
        many = len(numbers)


def marks_of(watch, state, groups):
    """The group of a watch state, and those to which its signs lead, None for a break."""
    behind = [groups.get(watch.place_of(state, label, deed), None) for label in watch.labels for deed in watch.deeds]
    return (groups[state], *behind)
