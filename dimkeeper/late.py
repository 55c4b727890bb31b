"""Sights that come one moment late."""

from dimkeeper.blurs import Blur, check_blur
from dimkeeper.checks import are_names, is_name
from dimkeeper.errors import BadBlur, TooMany
from dimkeeper.made import Made, joined_once
from dimkeeper.orders import come_about, each_once, order_of
from dimkeeper.stands import check_labels_known
from dimkeeper.tables import Table, check_table
from dimkeeper.worlds import World, check_world


def late(world, blur, blank="none"):
    """The Made in which each moment shows the sight of the moment before, and moment 0 a blank one."""
    check_world(world, "world")
    check_blur(blur, "blur")
    if not is_name(blank) or blank in blur.sights:
        raise BadBlur("blank")
    check_labels_known(world, blur)
    pairs = late_pairs(world, blur, blank)
    states = joined_once(pairs)
    shown = {pair: (world.label_of(pair[0]), pair[1]) for pair in pairs}
    labels = joined_once(each_once(list(shown.values())))
    if len(states) > World.MOST_STATES:
        raise TooMany("states", World.MOST_STATES)
    rows = []
    for pair in pairs:
        nexts = [[states[behind] for behind in late_nexts(world, blur, pair, deed)] for deed in world.deeds]
        rows.append((states[pair], labels[shown[pair]], nexts))
    made = World(world.deeds, rows, [states[start, blank] for start in world.starts])
    return Made(made, Blur({labels[pair]: pair[1] for pair in labels}), {labels[pair]: pair[0] for pair in labels},
                {deed: deed for deed in world.deeds})


def late_nexts(world, blur, pair, deed):
    """The pairs (state, late sight) behind such a pair under a deed."""
    seen = blur.sight_of(world.label_of(pair[0]))
    return [(after, seen) for after in world.nexts(pair[0], deed)]


def late_pairs(world, blur, blank):
    """The pairs (state, late sight) that come about: by the states, the blank one ahead, then by the sights."""
    nexts = {state: each_once(world.all_nexts(state)) for state in world.states}
    sights = {state: blur.sight_of(world.label_of(state)) for state in world.states}
    met = come_about([(start, blank) for start in world.starts],
                     lambda pair: [(after, sights[pair[0]]) for after in nexts[pair[0]]])
    order = order_of(world.states)
    return sorted(met, key=lambda pair: (order[pair[0]], pair[1] != blank, pair[1]))


def in_time(table, sights, blank="none"):
    """The table that does in time what a table over late sights does; its pages keep the sight of the moment before."""
    check_table(table, "table")
    if not are_names(sights):
        raise BadBlur("sights")
    if not is_name(blank) or blank in sights:
        raise BadBlur("blank")
    pages = {(1, blank): 1}
    for page in range(1, table.pages + 1):
        for sight in sights:
            pages[page, sight] = len(pages) + 1
    entries = [(pages[page, seen], sight, deed, pages[after, sight])
               for page, seen, deed, after in table.entries if (page, seen) in pages for sight in sights]
    return Table(len(pages), entries)
