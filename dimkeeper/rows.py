"""The rows of labels and deeds that a world gives."""

from dimkeeper.checks import is_name, is_row, is_within
from dimkeeper.errors import BadNumbers, BadRow, NoDeed, TooMany
from dimkeeper.paths import first_path
from dimkeeper.worlds import check_world

MOST_YIELDED = 8
MOST_COUNTED = 60
MOST_SETS = 500


def check_row_told(row):
    """Raises BadRow unless the value is a list or a tuple of an odd number of names."""
    if not is_row(row) or len(row) % 2 == 0 or not all([is_name(name) for name in row]):
        raise BadRow("row")


def check_row(world, row):
    """Raises what is told of a world and a row."""
    check_world(world, "world")
    check_row_told(row)
    for deed in row[1::2]:
        if deed not in world.deeds:
            raise NoDeed(deed)


def with_label(world, states, label):
    """Those of these states that have the label."""
    return tuple([state for state in states if world.label_of(state) == label])


def states_behind(world, states, deed):
    """The next states of these states under a deed, in order."""
    behind = {after: True for state in states for after in world.nexts(state, deed)}
    return tuple([state for state in world.states if state in behind])


def by_label(world, states):
    """The pairs of a label and those of these states that have it, labels ascending."""
    labels = sorted(set([world.label_of(state) for state in states]))
    return [(label, with_label(world, states, label)) for label in labels]


def layers_of(world, row):
    """The states behind each beginning of a row that ends with a label."""
    layers = [with_label(world, world.starts, row[0])]
    for deed, label in zip(row[1::2], row[2::2]):
        layers.append(with_label(world, states_behind(world, layers[-1], deed), label))
    return layers


def states_after(world, row):
    """The states behind a row, in order."""
    check_row(world, row)
    return layers_of(world, row)[-1]


def gives(world, row):
    """Whether a world gives a row."""
    return len(states_after(world, row)) > 0


def way_of(world, row):
    """The first way from a start that shows the row, or None."""
    check_row(world, row)
    return first_path(layers_of(world, row), lambda at, state: world.nexts(state, row[2 * at + 1]))


def check_asked(world, many):
    """Raises what is told of a world and a number of deeds."""
    check_world(world, "world")
    if not is_within(many, 0, None):
        raise BadNumbers("many")


def rows_of(world, many):
    """Yields the given rows with so many deeds."""
    check_asked(world, many)
    if many > MOST_YIELDED:
        raise TooMany("deeds", MOST_YIELDED)
    for label, states in by_label(world, world.starts):
        begun = (label,)
        yield from longer_rows(world, begun, states, many)


def longer_rows(world, row, states, many):
    """Yields the given rows that go on behind a row with so many deeds more; the states are those behind it."""
    if many == 0:
        yield row
        return
    fewer = many - 1
    for deed in world.deeds:
        for label, behind in by_label(world, states_behind(world, states, deed)):
            longer = (*row, deed, label)
            yield from longer_rows(world, longer, behind, fewer)


def count_rows(world, many):
    """How many rows with so many deeds a world gives."""
    check_asked(world, many)
    if many > MOST_COUNTED:
        raise TooMany("deeds", MOST_COUNTED)
    # Just one set of states stands behind each row, so rows are counted by these sets.
    counts = {states: 1 for label, states in by_label(world, world.starts)}
    met = {}
    meet_sets(met, counts)
    for _ in range(many):
        counts = longer_counts(world, met, counts)
        meet_sets(met, counts)
    return sum(list(counts.values()))


def longer_counts(world, met, counts):
    """How many rows with one deed more each set stands behind, counts telling this for the rows ahead."""
    longer = {}
    for states, count in counts.items():
        for behind in sets_behind(world, met, states):
            longer[behind] = longer.get(behind, 0) + count
    return longer


def meet_sets(met, counts):
    """Puts the sets of counts among those that are met."""
    for states in counts:
        met.setdefault(states, None)
    if len(met) > MOST_SETS:
        raise TooMany("sets", MOST_SETS)


def sets_behind(world, met, states):
    """The sets behind a set by a deed and a label, told once for each of these; met keeps what was found."""
    if met[states] is None:
        rows = [by_label(world, states_behind(world, states, deed)) for deed in world.deeds]
        met[states] = [behind for row in rows for label, behind in row]
    return met[states]
