"""Stands: pairs of a state of a world and a watch state of a watch."""

from dimkeeper.checks import is_pair
from dimkeeper.errors import NoLabel, Unlike
from dimkeeper.orders import order_of


def is_stand(world, watch, value):
    """Whether a value is a pair of a state of the world and a watch state of the watch."""
    return is_pair(value) and value[0] in world and value[1] in watch


def in_order(world, watch, stands):
    """The tuple of the stands, by their states, then by their watch states."""
    states = order_of(world.states)
    places = order_of(watch.states)
    return tuple(sorted(stands, key=lambda stand: (states[stand[0]], places[stand[1]])))


def check_labels_known(world, watch):
    """Raises NoLabel for the first label of the world that the watch, or a blur, has not."""
    for label in world.labels:
        if label not in watch.labels:
            raise NoLabel(label)


def check_deeds_fit(world, watch):
    """Raises Unlike unless both have the same deeds, in any order."""
    if sorted(world.deeds) != sorted(watch.deeds):
        raise Unlike("deeds")
