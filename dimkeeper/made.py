"""Worlds and blurs made of others, and what their names stand for."""

from dimkeeper.blurs import Blur, check_blur
from dimkeeper.checks import are_named, joined_name
from dimkeeper.errors import BadWorld, NoLabel, TooMany, Unlike
from dimkeeper.orders import refuse_twice
from dimkeeper.worlds import World, check_world


class Made:
    """A made world, its blur or None, and what its labels and its deeds stand for."""

    def __init__(self, world, blur, labels, deeds):
        check_world(world, "world")
        if blur is not None:
            check_blur(blur, "blur")
        if not stand_for(labels, world.labels):
            raise BadWorld("labels")
        if not stand_for(deeds, world.deeds):
            raise BadWorld("deeds")
        for label in world.labels:
            if blur is not None and label not in blur:
                raise NoLabel(label)
        self.world = world
        self.blur = blur
        self.labels = {label: labels[label] for label in world.labels}
        self.deeds = {deed: deeds[deed] for deed in world.deeds}

    def __eq__(self, other):
        return (isinstance(other, Made) and self.world == other.world and self.blur == other.blur
                and self.labels == other.labels and self.deeds == other.deeds)


def stand_for(olds, names):
    """Whether a value is a dict from just these names to names."""
    return are_named(olds, None) and len(olds) == len(names) and all([name in olds for name in names])


def check_worlds(one, other):
    """Raises BadWorld unless both are worlds."""
    check_world(one, "one")
    check_world(other, "other")


def either(one, other):
    """The world that is one of two, for ever."""
    check_worlds(one, other)
    if one.deeds != other.deeds:
        raise Unlike("deeds")
    states = marked_states(one, "one") + marked_states(other, "two")
    starts = marked(one.starts, "one") + marked(other.starts, "two")
    return World(one.deeds, states, starts)


def marked(names, stem):
    """The list of the names, each with the stem behind it."""
    return [joined_name(name, stem) for name in names]


def marked_states(world, stem):
    """The states of a world, as World takes them, each with the stem behind its name."""
    return [(joined_name(state, stem), world.label_of(state),
             [marked(world.nexts(state, deed), stem) for deed in world.deeds]) for state in world.states]


def joined_pairs(firsts, seconds):
    """The joined name of each pair of names, by the pair; those with the same first name side by side."""
    return {(first, second): joined_name(first, second) for first in firsts for second in seconds}


def joined_once(pairs):
    """The joined name of each of these different pairs, by the pair; raises Twice for the first name made twice."""
    names = {pair: joined_name(pair[0], pair[1]) for pair in pairs}
    refuse_twice(list(names.values()))
    return names


def beside(one, other):
    """Two worlds side by side: a Made for what the names of each stand for, over one world."""
    check_worlds(one, other)
    deeds = joined_pairs(one.deeds, other.deeds)
    refuse_twice(sorted(list(deeds.values())))
    states = joined_pairs(one.states, other.states)
    refuse_twice(list(states.values()))
    labels = joined_pairs(one.labels, other.labels)
    refuse_twice(list(labels.values()))
    if len(deeds) > World.MOST_DEEDS:
        raise TooMany("deeds", World.MOST_DEEDS)
    if len(states) > World.MOST_STATES:
        raise TooMany("states", World.MOST_STATES)
    rows = [(states[s, t], labels[one.label_of(s), other.label_of(t)], nexts_beside(one, other, (s, t), deeds, states))
            for s, t in states]
    starts = [states[s, t] for s in one.starts for t in other.starts]
    world = World(sorted(list(deeds.values())), rows, starts)
    first = Made(world, None, {labels[pair]: pair[0] for pair in labels}, {deeds[pair]: pair[0] for pair in deeds})
    second = Made(world, None, {labels[pair]: pair[1] for pair in labels}, {deeds[pair]: pair[1] for pair in deeds})
    return first, second


def nexts_beside(one, other, pair, deeds, states):
    """The next states of a pair of states, for each pair of deeds by its joined name, ascending."""
    pairs = sorted(list(deeds), key=lambda both: deeds[both])
    return [[states[s, t] for s in one.nexts(pair[0], deed) for t in other.nexts(pair[1], reply)]
            for deed, reply in pairs]


def paired(one, other):
    """The blur of two worlds side by side, each with a blur of its own."""
    check_blur(one, "one")
    check_blur(other, "other")
    labels = joined_pairs(one.labels, other.labels)
    refuse_twice(sorted(list(labels.values())))
    sights = joined_pairs(one.sights, other.sights)
    refuse_twice(sorted(list(sights.values())))
    shown = {pair: (one.sight_of(pair[0]), other.sight_of(pair[1])) for pair in labels}
    return Blur({labels[pair]: sights[shown[pair]] for pair in labels})
