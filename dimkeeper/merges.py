"""Worlds with states that are merged."""

from dimkeeper.checks import is_row
from dimkeeper.classes import check_two_states, classes
from dimkeeper.errors import BadGroups, NoState, Twice
from dimkeeper.worlds import World, check_world


def merged(world, groups):
    """The world of these groups of its states, each of them one state."""
    check_world(world, "world")
    if not is_row(groups) or not all([is_row(group) and len(group) > 0 for group in groups]):
        raise BadGroups("groups")
    group_of = {}
    for at, group in enumerate(groups):
        for state in group:
            if state not in world:
                raise NoState(state)
            if state in group_of:
                raise Twice(state)
            group_of[state] = at
    if len(group_of) < len(world):
        raise BadGroups("states")
    if not all([len(set([world.label_of(state) for state in group])) == 1 for group in groups]):
        raise BadGroups("labels")
    return merged_by(world, group_of)


def merged_by(world, group_of):
    """The world in which all states with the same group are one."""
    firsts = {}
    for state in world.states:
        firsts.setdefault(group_of[state], state)
    names = {state: firsts[group_of[state]] for state in world.states}
    nexts = {name: [{} for _ in world.deeds] for name in firsts.values()}
    for state in world.states:
        for at, deed in enumerate(world.deeds):
            for after in world.nexts(state, deed):
                nexts[names[state]][at][names[after]] = True
    rows = [(name, world.label_of(name), [list(group) for group in nexts[name]]) for name in firsts.values()]
    starts = {names[state]: True for state in world.starts}
    return World(world.deeds, rows, list(starts))


def merged_pair(world, a, b):
    """The world with two states merged, all others alone."""
    check_two_states(world, a, b)
    if world.label_of(a) != world.label_of(b):
        raise BadGroups("labels")
    return merged_by(world, {state: a if state == b else state for state in world.states})


def coarsest(world):
    """The world with all states merged that are alike."""
    return merged(world, classes(world))
