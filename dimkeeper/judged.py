"""Watches judged alone and over a world: what is doomed, and what is never broken whatever is done."""

from dimkeeper.checks import is_one_of
from dimkeeper.orders import order_of
from dimkeeper.papers import Denial, Paper, is_called
from dimkeeper.stands import check_deeds_fit, check_labels_known, in_order, is_stand
from dimkeeper.watches import Watch, check_watch
from dimkeeper.worlds import check_world


class Safe(Paper):
    """No deed breaks at any of these stands, which lead to no others."""

    def __init__(self, stands):
        super().__init__("safe", stands)
        self.stands = self.parts[0]


class Unsafe(Denial):
    """The last of these deeds, done along these states, breaks the promise."""

    def __init__(self, states, deeds):
        super().__init__("unsafe", states, deeds)
        self.states = self.parts[0]
        self.deeds = self.parts[1]


def doomed(watch):
    """The watch states from which no endless reading stays unbroken, in order."""
    check_watch(watch, "watch")
    alive = order_of(watch.lasting_states())
    return tuple([state for state in watch.states if state not in alive])


def settled(watch):
    """The watch without its doomed watch states, broken where it went to one of these."""
    check_watch(watch, "watch")
    states = [watch.first] if watch.is_hopeless else watch.lasting_states()
    alive = {} if watch.is_hopeless else order_of(states)

    def place(state, label, deed):
        after = watch.place_of(state, label, deed)
        return after if after in alive else Watch.BROKEN

    rows = [(state, [[place(state, label, deed) for deed in watch.deeds] for label in watch.labels])
            for state in states]
    return Watch(watch.labels, watch.deeds, rows)


def check_over(world, watch):
    """Raises what is told of a world and a watch over it."""
    check_world(world, "world")
    check_watch(watch, "watch")
    check_labels_known(world, watch)
    check_deeds_fit(world, watch)


def safe(world, watch):
    """A Safe, if no deed breaks at a stand that comes about, otherwise an Unsafe."""
    check_over(world, watch)
    met = [(start, watch.first) for start in world.starts]
    # For each stand that is met, the stand ahead of it and the deed between.
    ahead = {stand: None for stand in met}
    at = 0
    while at < len(met):
        stand = met[at]
        for deed in world.deeds:
            place = watch.place_of(stand[1], world.label_of(stand[0]), deed)
            if place == Watch.BROKEN:
                return unsafe_at(ahead, stand, deed)
            for state in world.nexts(stand[0], deed):
                if (state, place) not in ahead:
                    ahead[state, place] = (stand, deed)
                    met.append((state, place))
        at += 1
    return Safe(in_order(world, watch, met))


def unsafe_at(ahead, stand, deed):
    """The Unsafe that ends with this deed at this stand."""
    states = [stand[0]]
    deeds = [deed]
    while ahead[stand] is not None:
        stand, deed = ahead[stand]
        states.append(stand[0])
        deeds.append(deed)
    return Unsafe(states[::-1], deeds[::-1])


def shows_safe(world, watch, value):
    """Whether value is a right Safe or a right Unsafe, of any length."""
    check_over(world, watch)
    if isinstance(value, Safe) and is_called(value, "Safe"):
        return is_right_safe(world, watch, value.stands)
    if isinstance(value, Unsafe) and is_called(value, "Unsafe"):
        return is_right_unsafe(world, watch, value.states, value.deeds)
    return False


def is_right_safe(world, watch, stands):
    """Whether stands hold those of the starts, and lead unbroken to none but themselves."""
    if not isinstance(stands, tuple) or not all([is_stand(world, watch, stand) for stand in stands]):
        return False
    among = {stand: True for stand in stands}
    if not all([(start, watch.first) in among for start in world.starts]):
        return False
    # No stand that is among them has the place broken, so a deed that breaks leads to none of them.
    return all([(state, watch.place_of(kept, world.label_of(at), deed)) in among
                for at, kept in stands for deed in world.deeds for state in world.nexts(at, deed)])


def is_right_unsafe(world, watch, states, deeds):
    """Whether the states are a way from a start by the deeds, the last of which is the first that breaks."""
    if not isinstance(states, tuple) or not isinstance(deeds, tuple) or len(states) != len(deeds):
        return False
    if not states or not is_one_of(states[0], world.starts):
        return False
    place = watch.first
    for at, state in enumerate(states):
        if place == Watch.BROKEN or not is_one_of(deeds[at], world.deeds):
            return False
        if at > 0 and not is_one_of(state, world.nexts(states[at - 1], deeds[at - 1])):
            return False
        place = watch.place_of(place, world.label_of(state), deeds[at])
    return place == Watch.BROKEN
