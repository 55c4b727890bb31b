"""Whether a Shared or a Parting is right."""

from dimkeeper.among import Parting, Shared, check_comparable
from dimkeeper.checks import is_one_of, is_pair
from dimkeeper.papers import is_called
from dimkeeper.rows import states_behind, with_label
from dimkeeper.state_sets import StateSets


def shows_among(one, other, value):
    """Whether value is a right Shared or a right Parting."""
    check_comparable(one, other)
    if isinstance(value, Shared) and is_called(value, "Shared"):
        return is_right_shared(one, other, value.pairs)
    if isinstance(value, Parting) and is_called(value, "Parting"):
        return is_right_way(one, value) and are_right_sets(one, other, value)
    return False


def are_states(world, value):
    """Whether a value is a row of states of a world."""
    return isinstance(value, tuple) and all([state in world for state in value])


def is_shared_pair(one, other, value):
    """Whether a value is a state of one and a row of one or more states of other with its label."""
    if not is_pair(value) or value[0] not in one or not are_states(other, value[1]) or not value[1]:
        return False
    return all([other.label_of(state) == one.label_of(value[0]) for state in value[1]])


def is_right_shared(one, other, pairs):
    """Whether pairs hold one for each start, and for each next state of each of their states."""
    if not isinstance(pairs, tuple) or not all([is_shared_pair(one, other, pair) for pair in pairs]):
        return False
    sets = StateSets(other)
    told = {state: {} for state in one.states}
    for state, states in pairs:
        told[state][sets.set_of(states)] = True
    if not all([has_within(told[start], sets.firsts.get(one.label_of(start), 0)) for start in one.starts]):
        return False
    wanted = {}
    for state in one.states:
        for bits in told[state]:
            for after, among in led_to(one, sets, state, bits):
                wanted[after, among] = True
    return all([has_within(told[after], among) for after, among in wanted])


def led_to(one, sets, state, bits):
    """The pairs of a next state of a state and the set of what has its label behind a set, by the same deed."""
    return [(after, sets.behind(bits, deed).get(one.label_of(after), 0))
            for deed in one.deeds for after in one.nexts(state, deed)]


def has_within(told, bits):
    """Whether one of these sets has none but the states of this one."""
    return bits in told or any([among & bits == among for among in told])


def is_right_way(one, value):
    """Whether the row of a Parting is one, and its way shows it from a start on."""
    row, way = value.row, value.way
    if not isinstance(row, tuple) or len(row) % 2 == 0 or not all([deed in one.deeds for deed in row[1::2]]):
        return False
    if not are_states(one, way) or len(way) != len(row) // 2 + 1 or way[0] not in one.starts:
        return False
    if not all([one.label_of(state) == label for state, label in zip(way, row[::2])]):
        return False
    return all([is_one_of(after, one.nexts(state, deed)) for state, deed, after in zip(way, row[1::2], way[1:])])


def are_right_sets(one, other, value):
    """Whether the sets of a Parting hold at least the states of other behind its row, and the last one is empty."""
    sets = value.sets
    if not isinstance(sets, tuple) or len(sets) != len(value.way) or not all([are_states(other, row) for row in sets]):
        return False
    labels, deeds = value.row[::2], value.row[1::2]
    if not holds_all(sets[0], with_label(other, other.starts, labels[0])):
        return False
    for at, deed in enumerate(deeds):
        if not holds_all(sets[at + 1], with_label(other, states_behind(other, sets[at], deed), labels[at + 1])):
            return False
    return len(sets[-1]) == 0


def holds_all(row, states):
    """Whether a row has all these states."""
    return all([state in row for state in states])
