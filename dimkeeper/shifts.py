"""Several keepers with one notebook, who see the world by turns."""

from dimkeeper.blurs import Blur
from dimkeeper.checks import is_name, is_row, joined_name
from dimkeeper.errors import BadRoster, TooMany
from dimkeeper.made import Made, joined_once
from dimkeeper.orders import each_once
from dimkeeper.stands import check_labels_known
from dimkeeper.tables import Table, check_table
from dimkeeper.worlds import World, check_world

MOST_TURNS = 12


def shifts(world, roster, blurs):
    """The Made in which each moment is seen by the keeper whose turn it is."""
    check_world(world, "world")
    check_roster(roster, blurs)
    for keeper in each_once(roster):
        check_labels_known(world, blurs[keeper])
    if len(roster) > MOST_TURNS:
        raise TooMany("roster", MOST_TURNS)
    turns = [f"t{at}" for at in range(len(roster))]
    states = joined_once([(state, turn) for state in world.states for turn in turns])
    labels = joined_once(each_once([(world.label_of(state), keeper) for state in world.states for keeper in roster]))
    shown = {(label, keeper): (keeper, blurs[keeper].sight_of(label)) for label, keeper in labels}
    sights = joined_ascending(each_once(list(shown.values())))
    if len(states) > World.MOST_STATES:
        raise TooMany("states", World.MOST_STATES)
    rows = []
    for state in world.states:
        for at, keeper in enumerate(roster):
            after = turns[(at + 1) % len(turns)]
            nexts = [[states[behind, after] for behind in world.nexts(state, deed)] for deed in world.deeds]
            rows.append((states[state, turns[at]], labels[world.label_of(state), keeper], nexts))
    made = World(world.deeds, rows, [states[start, turns[0]] for start in world.starts])
    return Made(made, Blur({labels[pair]: sights[shown[pair]] for pair in labels}),
                {labels[pair]: pair[0] for pair in labels}, {deed: deed for deed in world.deeds})


def check_roster(roster, blurs):
    """Raises BadRoster unless these are one or more names, and a dict from these, and no others, to blurs."""
    if not is_row(roster) or not roster or not all([is_name(keeper) for keeper in roster]):
        raise BadRoster("roster")
    if not isinstance(blurs, dict) or not all([isinstance(keeper, str) for keeper in blurs]):
        raise BadRoster("blurs")
    if sorted(blurs) != sorted(set(roster)) or not all([isinstance(blurs[keeper], Blur) for keeper in blurs]):
        raise BadRoster("blurs")


def joined_ascending(pairs):
    """The joined name of each of these different pairs, by the pair; the names are ascending."""
    names = {pair: joined_name(pair[0], pair[1]) for pair in pairs}
    return joined_once(sorted(pairs, key=lambda pair: names[pair]))


def own_table(table, keeper):
    """What a table over sights of several keepers tells this one."""
    check_table(table, "table")
    if not is_name(keeper):
        raise BadRoster("keeper")
    mark = f"{keeper}."
    return Table(table.pages, [(page, sight[len(mark):], deed, after) for page, sight, deed, after in table.entries
                               if sight.startswith(mark)])


def shared_table(tables):
    """The table of several keepers, made of one for each."""
    if not isinstance(tables, dict) or not tables or not all([is_name(keeper) for keeper in tables]):
        raise BadRoster("tables")
    if not all([isinstance(tables[keeper], Table) for keeper in tables]):
        raise BadRoster("tables")
    pairs = [(keeper, entry[1]) for keeper in tables for entry in tables[keeper].entries]
    sights = joined_ascending(each_once(pairs))
    entries = [(page, sights[keeper, sight], deed, after)
               for keeper in tables for page, sight, deed, after in tables[keeper].entries]
    return Table(max([tables[keeper].pages for keeper in tables]), entries)
