"""Whether the rows of one world are among those of another one."""

from dimkeeper.errors import Unlike
from dimkeeper.orders import each_once
from dimkeeper.papers import Denial, Paper
from dimkeeper.rows import way_of
from dimkeeper.state_sets import StateSets, check_sets
from dimkeeper.walks import walk_until
from dimkeeper.worlds import check_world


class Shared(Paper):
    """Pairs of a state of one world and states of the other, which lead to none without any."""

    def __init__(self, pairs):
        super().__init__("shared", pairs)
        self.pairs = self.parts[0]


class Parting(Denial):
    """A row that one world gives, a way that shows it, and the states of the other world behind its beginnings."""

    def __init__(self, row, way, sets):
        super().__init__("parting", row, way, sets)
        self.row = self.parts[0]
        self.way = self.parts[1]
        self.sets = self.parts[2]


def check_comparable(one, other):
    """Raises what is told of two worlds that are compared."""
    check_world(one, "one")
    check_world(other, "other")
    if one.deeds != other.deeds:
        raise Unlike("deeds")


def rows_among(one, other):
    """A Shared, if the rows of one are among those of other, otherwise a Parting."""
    check_comparable(one, other)
    sets = StateSets(other)
    check_sets(sets)
    pairs = Pairs(one, sets)
    firsts = pairs.first_pairs()
    ahead, fault = walk_until(firsts, lambda pair: pairs.behind(pair))
    if fault is None:
        return Shared([(state, sets.states_of(among)) for state, among in ahead])
    row, told = least_row(pairs, firsts)
    return Parting(row, way_of(one, row), [sets.states_of(among) for among in told])


class Pairs:
    """What comes about side by side: pairs of a state of one world and a set of the other one, as StateSets has it."""

    def __init__(self, one, sets):
        self.one = one
        self.sets = sets

    def first_pairs(self):
        """The pairs of the starts, in order."""
        return [(state, self.sets.firsts.get(self.one.label_of(state), 0)) for state in self.one.starts]

    def behind(self, pair):
        """The pairs to which a pair leads, by deeds, then by states; None if its set is empty."""
        if pair[1] == 0:
            return None
        return [after for deed in self.one.deeds for after in self.by_deed(pair, deed)]

    def by_deed(self, pair, deed):
        """The pairs to which a pair leads by a deed."""
        groups = self.sets.behind(pair[1], deed)
        return [(state, groups.get(self.one.label_of(state), 0)) for state in self.one.nexts(pair[0], deed)]


def least_row(pairs, firsts):
    """The parting row, and the sets behind its beginnings; some pair with an empty set comes about."""
    layers = parting_layers(pairs, firsts)
    label, group = least_labelled(pairs.one, layers[0])
    row = [label]
    # All pairs of a group have the same set, which stands behind the row.
    sets = [group[0][1]]
    for layer in layers[1:]:
        steps = [(deed, behind_group(pairs, group, deed, layer)) for deed in pairs.one.deeds]
        deed, behind = [step for step in steps if step[1]][0]
        label, group = least_labelled(pairs.one, behind)
        row = row + [deed, label]
        sets.append(group[0][1])
    return row, sets


def least_labelled(one, pairs):
    """The least label of the states of these pairs, and the pairs whose states have it."""
    label = min([one.label_of(state) for state, among in pairs])
    return label, [pair for pair in pairs if one.label_of(pair[0]) == label]


def behind_group(pairs, group, deed, layer):
    """Those pairs of a layer to which the pairs of a group lead by a deed, each once."""
    return each_once([after for pair in group for after in pairs.by_deed(pair, deed) if after in layer])


def parting_layers(pairs, firsts):
    """For each moment the pairs by which a pair with an empty set comes about the soonest."""
    layers = [{pair: True for pair in firsts}]
    seen = {pair: True for pair in firsts}
    while all([among != 0 for state, among in layers[-1]]):
        layer = {after: True for pair in layers[-1] for after in pairs.behind(pair) if after not in seen}
        for pair in layer:
            seen[pair] = True
        layers.append(layer)
    alive = [{pair: True for pair in layers[-1] if pair[1] == 0}]
    for layer in layers[-2::-1]:
        among = alive[-1]
        alive.append({pair: True for pair in layer if any([after in among for after in pairs.behind(pair)])})
    return alive[::-1]


def worlds_alike(one, other):
    """Whether the rows of each of two worlds are among those of the other one."""
    check_comparable(one, other)
    check_sets(StateSets(one))
    check_sets(StateSets(other))
    return bool(rows_among(one, other)) and bool(rows_among(other, one))
