"""Rows, pairs and sets of worlds worked out in the most plain way, to hold the program against."""

from test_rows import all_deeds, row_of, ways


def rows_by_hand(world, many):
    """All rows with so many deeds that a world gives, by all its ways, the least ones first."""
    rows = {row_of(world, way, deeds) for deeds in all_deeds(world, many) for way in ways(world, deeds)}
    order = list(world.deeds)
    return sorted(rows, key=lambda row: [order.index(name) if at % 2 else name for at, name in enumerate(row)])


def pairs_by_hand(one, other):
    """The pairs that come about, as told; those behind an empty set are left out."""
    pairs = []

    def meet(state, among):
        pair = state, tuple(one_state for one_state in other if one_state in among
                            and other.label_of(one_state) == one.label_of(state))
        pairs.extend([] if pair in pairs else [pair])

    for start in one.starts:
        meet(start, other.starts)
    for state, among in pairs:
        for deed in one.deeds if among else ():
            for after in one.nexts(state, deed):
                meet(after, {behind for kept in among for behind in other.nexts(kept, deed)})
    return pairs


def parting_by_hand(one, other, most=7):
    """The least row that one gives and other does not, by a trial of all rows; None if there is none so short."""
    for many in range(most):
        known = set(rows_by_hand(other, many))
        for row in rows_by_hand(one, many):
            if row not in known:
                return row
    return None


def sets_by_hand(world):
    """All sets of states of a world that come about."""
    def shared(states):
        return {frozenset(state for state in states if world.label_of(state) == label) for label in world.labels} - {
            frozenset()}
    sets = {frozenset([state]) for state in world} | shared(world.starts)
    while True:
        more = set(sets)
        for states in sets:
            for deed in world.deeds:
                more |= shared({after for state in states for after in world.nexts(state, deed)})
        if more == sets:
            return sets
        sets = more


def alike_by_hand(world, a, b):
    """Whether no pair with an empty set comes about on either side."""
    one, other = world.begun(a), world.begun(b)
    return all(among for _, among in pairs_by_hand(one, other) + pairs_by_hand(other, one))
