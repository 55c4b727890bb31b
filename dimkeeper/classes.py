"""States that are alike, and what parts those that are not."""

from dimkeeper.among import rows_among
from dimkeeper.errors import NoState
from dimkeeper.orders import each_once, order_of
from dimkeeper.rows import MOST_SETS
from dimkeeper.state_sets import StateSets
from dimkeeper.worlds import check_world


def check_two_states(world, a, b):
    """Raises what is told of a world and two of its states."""
    check_world(world, "world")
    for state in (a, b):
        if state not in world:
            raise NoState(state)


def is_alike(world, a, b):
    """Whether two states of a world are alike."""
    check_two_states(world, a, b)
    groups = class_numbers(world)
    return groups[a] == groups[b]


def class_numbers(world):
    """The number of its class for each state of a world; those that are alike have the same one."""
    sets = StateSets(world)
    met = sets.all_sets(MOST_SETS)
    # The sets are shared out by what they show, then by where they lead, until nothing more is shared out.
    groups = numbered({bits: world.label_of(sets.states_of(bits)[0]) for bits in met})
    many = 0
    while many < len(set(list(groups.values()))):
        many = len(set(list(groups.values())))
        groups = numbered({bits: marks_of(sets, bits, groups) for bits in met})
    return {state: groups[sets.set_of((state,))] for state in world.states}


def numbered(marks):
    """The number of the mark of each set, as the marks come first."""
    numbers = order_of(each_once(list(marks.values())))
    return {bits: numbers[mark] for bits, mark in marks.items()}


def marks_of(sets, bits, groups):
    """The group of a set, and for each deed those of the sets to which it leads, with their labels."""
    return (groups[bits], *[tuple([(label, groups[group]) for label, group in sets.behind(bits, deed).items()])
                            for deed in sets.world.deeds])


def parted(world, a, b):
    """None for states that are alike; otherwise the one of them that gives the least row that the other one does not,
    and the Parting of the world begun at it against the world begun at the other one."""
    if is_alike(world, a, b):
        return None
    papers = [(a, rows_among(world.begun(a), world.begun(b))), (b, rows_among(world.begun(b), world.begun(a)))]
    order = order_of(world.deeds)
    return min([pair for pair in papers if not pair[1]], key=lambda pair: row_key(pair[1].row, order))


def row_key(row, order):
    """By what rows are put in order: their length, then label by label and deed by deed."""
    return len(row), [word if at % 2 == 0 else order[word] for at, word in enumerate(row)]


def classes(world):
    """The list of the tuples of states that are alike, in order."""
    check_world(world, "world")
    found = {}
    for state, number in class_numbers(world).items():
        found.setdefault(number, []).append(state)
    return [tuple(states) for states in found.values()]
