"""Whether one watch implies another, and what shows it."""

from dimkeeper.checks import is_name, is_one_of, is_pair, is_within
from dimkeeper.errors import BadPaper
from dimkeeper.judged import settled
from dimkeeper.lassos import closed_reading
from dimkeeper.papers import Denial, Paper, is_called
from dimkeeper.round_lassos import ring_of_rounds
from dimkeeper.short_lassos import shorter_reading
from dimkeeper.watches import Watch, check_fitting
from dimkeeper.worlds import World

MOST_TOLD = 200


class Implied(Paper):
    """The pairs of watch states to which unbroken readings lead."""

    def __init__(self, pairs):
        super().__init__("implied", pairs)
        self.pairs = self.parts[0]


class Apart(Denial):
    """A reading that is read once, and then again and again from its pair with the index ring on."""

    def __init__(self, reading, ring):
        super().__init__("apart", reading, ring)
        self.reading = self.parts[0]
        self.ring = self.parts[1]


def signs_of(watch):
    """The pairs of a label and a deed, label by label, deed by deed."""
    return [(label, deed) for label in watch.labels for deed in watch.deeds]


def implied(one, other):
    """An Implied, if one implies other, otherwise an Apart."""
    check_fitting(one, other)
    if one.is_hopeless:
        return Implied(())
    calm = settled(one)
    met = [(calm.first, other.first)]
    # For each pair that is met, the pair ahead of it and the sign between.
    ahead = {met[0]: None}
    at = 0
    while at < len(met):
        for sign in signs_of(one):
            pair = pair_behind(calm, other, met[at], sign)
            if pair[0] == Watch.BROKEN or pair in ahead:
                continue
            ahead[pair] = (met[at], sign)
            if pair[1] == Watch.BROKEN:
                return apart_at(calm, other, ahead, pair)
            met.append(pair)
        at += 1
    return Implied(met)


def pair_behind(one, other, pair, sign):
    """The places to which a sign leads from a pair of watch states."""
    return one.place_of(pair[0], sign[0], sign[1]), other.place_of(pair[1], sign[0], sign[1])


def apart_at(calm, other, ahead, pair):
    """The Apart of a reading that leads to this pair, or of a shorter one where that is too long."""
    run = [pair[0]]
    reading = []
    while ahead[pair] is not None:
        pair, sign = ahead[pair]
        run.append(pair[0])
        reading.append(sign)
    whole, ring = closed_reading(calm, run[::-1], reading[::-1])
    if len(whole) > MOST_TOLD:
        whole, ring = shorter_reading(calm, other, whole, ring)
    if len(whole) > MOST_TOLD:
        found = ring_of_rounds(calm, other, MOST_TOLD)
        whole, ring = (whole, ring) if found is None else found
    return Apart(whole, ring)


def shows_implied(one, other, value):
    """Whether value is a right Implied or a right Apart."""
    check_fitting(one, other)
    if isinstance(value, Implied) and is_called(value, "Implied"):
        return is_right_implied(one, other, value.pairs)
    if isinstance(value, Apart) and is_called(value, "Apart"):
        return is_right_apart(one, other, value.reading, value.ring)
    return False


def is_right_implied(one, other, pairs):
    """Whether the pairs hold the first one and lead, where one settled is unbroken, to none but themselves."""
    calm = settled(one)
    if not isinstance(pairs, tuple):
        return False
    if not all([is_pair(pair) and pair[0] in calm and pair[1] in other for pair in pairs]):
        return False
    among = {pair: True for pair in pairs}
    if not one.is_hopeless and (calm.first, other.first) not in among:
        return False
    behind = [pair_behind(calm, other, pair, sign) for pair in pairs for sign in signs_of(one)]
    return all([pair in among for pair in behind if pair[0] != Watch.BROKEN])


def is_right_apart(one, other, reading, ring):
    """Whether the endless reading breaks other and not one."""
    if not is_reading(reading, ring):
        return False
    if not all([is_one_of(label, one.labels) and is_one_of(deed, one.deeds) for label, deed in reading]):
        return False
    return breaks_endlessly(other, reading, ring) and not breaks_endlessly(one, reading, ring)


def is_reading(reading, ring):
    """Whether these tell an endless reading: pairs of names, one or more, and an index of them."""
    if not isinstance(reading, tuple) or not is_within(ring, 0, len(reading) - 1):
        return False
    return all([is_pair(pair) and is_name(pair[0]) and is_name(pair[1]) for pair in reading])


def breaks_endlessly(watch, reading, ring):
    """Whether the endless reading breaks the watch."""
    place = watch.after(reading)
    begun = {}
    # Once a round begins where an earlier one began, nothing new comes.
    while place != Watch.BROKEN and place not in begun:
        begun[place] = True
        for label, deed in reading[ring:]:
            place = watch.place_behind(place, label, deed)
    return place == Watch.BROKEN


def apart_world(paper, deeds):
    """The world that shows just the labels of an Apart."""
    if not isinstance(paper, Apart) or not is_called(paper, "Apart") or not is_reading(paper.reading, paper.ring):
        raise BadPaper("paper")
    many = len(deeds) if isinstance(deeds, (list, tuple)) else 0
    last = len(paper.reading) - 1
    states = []
    for at, pair in enumerate(paper.reading):
        behind = at + 1 if at < last else paper.ring
        states.append((f"s{at}", pair[0], [[f"s{behind}"]] * many))
    return World(deeds, states, ["s0"])
