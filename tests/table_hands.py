"""Tables worked out in the most plain way, to hold the program against: all plays, all tables, the whole search."""

import itertools

from common import random_task

from dimkeeper.tables import Table
from dimkeeper.trees import Leaf, Need


def cells_of(table):
    return {(page, sight): (deed, after) for page, sight, deed, after in table.entries}


def entry_of(task, cells, state, page):
    return cells.get((page, task.sight_of(state)))


def plays_by_hand(task, cells, many):
    """The states of all plays up to so many states, or up to where they stop, in order."""
    def longer(states, page):
        entry = entry_of(task, cells, states[-1], page)
        if len(states) == many or entry is None:
            return [states]
        return [play for state in task.world.nexts(states[-1], entry[0]) for play in longer(states + (state,), entry[1])]
    firsts = [state for state in task.world if any(state == stand[0] for stand in task.standing)]
    return [play for state in firsts for play in longer((state,), 1)]


def layers_by_hand(task, cells):
    """For each moment the plays up to it that are not broken ahead: (stand at the beginning, states, page, kept).

    The last layer brings no new (state, page, kept); of plays that come to the same one at one moment just the first
    one stays.
    """
    layer = [(stand, (stand[0],), 1, stand[1]) for stand in task.standing]
    seen, layers = set(), []
    while layer:
        layers.append(layer)
        seen |= {(states[-1], page, kept) for _, states, page, kept in layer}
        behind, met = [], set()
        for stand, states, page, kept in layer:
            entry = entry_of(task, cells, states[-1], page)
            place = None if entry is None else task.place_of((states[-1], kept), entry[0])
            if entry is None or place == "broken":
                continue
            for state in task.world.nexts(states[-1], entry[0]):
                if (state, entry[1], place) not in met:
                    met.add((state, entry[1], place))
                    behind.append((stand, states + (state,), entry[1], place))
        layer = behind if met - seen else []
    return layers


def ends_by_hand(task, cells):
    """The first of the shortest plays that breaks, and of those that stop unbroken: (first, states) or None; each."""
    breaks, stops = None, None
    for layer in layers_by_hand(task, cells):
        for stand, states, page, kept in layer:
            entry = entry_of(task, cells, states[-1], page)
            if entry is None:
                stops = stops or (stand[1], states)
            elif task.place_of((states[-1], kept), entry[0]) == "broken":
                breaks = breaks or (stand[1], states)
    return breaks, stops


def walk_by_hand(task, cells):
    spots = [(state, 1) for state in task.world if any(state == stand[0] for stand in task.standing)]
    for state, page in spots:
        entry = entry_of(task, cells, state, page)
        if entry is not None:
            spots += [(after, entry[1]) for after in task.world.nexts(state, entry[0]) if (after, entry[1]) not in spots]
    return spots


def needed_by_hand(task, cells):
    needed = []
    for state, page in walk_by_hand(task, cells):
        cell = (page, task.sight_of(state))
        needed += [] if cell in needed else [cell]
    return needed


def lacking_by_hand(task, cells):
    """The first needed cell without an entry, or None."""
    return next((cell for cell in needed_by_hand(task, cells) if cell not in cells), None)


def form_by_hand(task, cells):
    """The entries of the one form, in the order in which their cells are needed."""
    needed = needed_by_hand(task, cells)
    pages = [1]
    for cell in needed:
        pages += [] if cells[cell][1] in pages else [cells[cell][1]]
    return tuple((pages.index(page) + 1, sight, cells[page, sight][0], pages.index(cells[page, sight][1]) + 1)
                 for page, sight in needed)


def triples_by_hand(task, cells):
    """The triples that come about, in the told order, of a table that holds."""
    triples = [(state, 1, kept) for state, kept in task.standing]
    for state, page, kept in triples:
        deed, after = entry_of(task, cells, state, page)
        place = task.place_of((state, kept), deed)
        triples += [(one, after, place) for one in task.world.nexts(state, deed) if (one, after, place) not in triples]
    return triples


def all_cells(task, k):
    """All ways to give each cell of k pages an entry."""
    cells = [(page, sight) for page in range(1, k + 1) for sight in task.sights]
    entries = [(deed, page) for deed in task.world.deeds for page in range(1, k + 1)]
    for row in itertools.product(entries, repeat=len(cells)):
        yield dict(zip(cells, row))


def how_many(task, k):
    return (len(task.world.deeds) * k) ** (k * len(task.sights))


def list_by_hand(task, k):
    """The entries, as needed, of the tables of the list of k, in order, by a trial of all tables."""
    found = {form_by_hand(task, cells) for cells in all_cells(task, k) if ends_by_hand(task, cells)[0] is None}
    deeds = list(task.world.deeds)
    return sorted(found, key=lambda form: [(deeds.index(deed), after) for _, _, deed, after in form])


def small_task(chance, k, most=5000, **more):
    """A random task for which all tables of k pages can be tried."""
    while True:
        task = random_task(chance, **more)
        if how_many(task, k) <= most:
            return task


def search_by_hand(task, k, answers=()):
    """The whole search by its words: a tree, where an end is None."""
    cells = {(page, sight): (deed, after) for page, sight, deed, after in answers}
    broken = ends_by_hand(task, cells)[0]
    if broken is not None:
        return Leaf(*broken)
    cell = lacking_by_hand(task, cells)
    if cell is None:
        return None
    used = max([1] + [after for _, _, _, after in answers])
    return (*cell, [[search_by_hand(task, k, answers + ((*cell, deed, page),)) for page in range(1, min(used + 1, k) + 1)]
                    for deed in task.world.deeds])


def counted(tree):
    """How many questions, leaves and ends a search by hand has."""
    if tree is None:
        return 0, 0, 1
    if isinstance(tree, Leaf):
        return 0, 1, 0
    parts = [counted(part) for row in tree[2] for part in row]
    return 1 + sum(part[0] for part in parts), sum(part[1] for part in parts), sum(part[2] for part in parts)


def grown(tree):
    """The tree of a search by hand without an end."""
    if isinstance(tree, Leaf):
        return tree
    return Need(tree[0], tree[1], [[grown(part) for part in row] for row in tree[2]])


def random_table(chance, task, most_pages=3, lacking=0.15):
    """A table of a task that may lack entries, and may have some that nothing needs."""
    pages = chance.randint(1, most_pages)
    cells = [(page, sight) for page in range(1, pages + 1) for sight in list(task.blur.sights) + ["odd"]]
    told = [cell for cell in cells if chance.random() >= lacking] or cells[:1]
    return Table(pages, [(page, sight, chance.choice(task.world.deeds), chance.randint(1, pages)) for page, sight in told])


def chosen(chance, task, table):
    """A table that does not break at once where another one does, if there is such a deed: it lives longer."""
    entries = []
    for page, sight, deed, after in table.entries:
        stands = [stand for stand in task.stands() if task.sight_of(stand[0]) == sight]
        good = [one for one in task.world.deeds if all(task.place_of(stand, one) != "broken" for stand in stands)]
        entries.append((page, sight, chance.choice(good) if good else deed, after))
    return Table(table.pages, entries)
