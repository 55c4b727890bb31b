"""Plays of a table in a task."""

from dimkeeper.checks import is_one_of, is_row, is_within
from dimkeeper.errors import BadNumbers, BadPlay, NoEntry, TooMany
from dimkeeper.orders import each_once
from dimkeeper.tables import check_table
from dimkeeper.tasks import check_task
from dimkeeper.walks import check_deeds_known
from dimkeeper.watches import Watch

MOST_STATES = 12


class Play:
    """The play along these states, which begins with a watch state."""

    def __init__(self, task, table, states, first=None):
        check_task(task)
        check_table(table, "table")
        if not is_row(states) or not states or not all([state in task.world for state in states]):
            raise BadPlay("states")
        begun = [kept for state, kept in task.standing if state == states[0]]
        if not begun:
            raise BadPlay("states")
        if first is not None and not is_one_of(first, begun):
            raise BadPlay("first")
        check_deeds_known(task, table)
        pages, deeds = done_along(task, table, states)
        self.states = tuple(states)
        self.sights = tuple([task.sight_of(state) for state in states])
        self.pages = pages
        self.deeds = deeds
        self.places = places_along(task, begun[0] if first is None else first, states, deeds)
        self.breaks_at = self.places.index(Watch.BROKEN) if Watch.BROKEN in self.places else None

    def __eq__(self, other):
        return (isinstance(other, Play) and self.states == other.states and self.sights == other.sights
                and self.pages == other.pages and self.deeds == other.deeds and self.places == other.places)


def done_along(task, table, states):
    """The pages that are open along these states, and the deeds that are done there."""
    pages = [1]
    deeds = []
    for at, state in enumerate(states):
        cell = (pages[at], task.sight_of(state))
        is_last = at == len(states) - 1
        if cell in table:
            deed, page = table.entry_of(cell[0], cell[1])
            deeds.append(deed)
            pages.append(page)
        elif not is_last:
            raise NoEntry(cell[0], cell[1])
        if not is_last and states[at + 1] not in task.world.nexts(state, deeds[at]):
            raise BadPlay("next")
    return tuple(pages[:len(states)]), tuple(deeds)


def places_along(task, first, states, deeds):
    """The places behind these deeds, done at these states from a watch state on."""
    places = []
    place = first
    for state, deed in zip(states, deeds):
        place = task.watch.place_behind(place, task.world.label_of(state), deed)
        places.append(place)
    return tuple(places)


def plays(task, table, many):
    """Yields the states of all plays, each once, up to so many states, or to the one at which it stops."""
    check_task(task)
    check_table(table, "table")
    if not is_within(many, 1, None):
        raise BadNumbers("many")
    check_deeds_known(task, table)
    if many > MOST_STATES:
        raise TooMany("many", MOST_STATES)
    for state in each_once([stand[0] for stand in task.standing]):
        begun = (state,)
        yield from longer_plays(task, table, begun, 1, many)


def longer_plays(task, table, states, page, many):
    """Yields the states of the plays that begin with these, at the last of which this page is open."""
    cell = (page, task.sight_of(states[-1]))
    if len(states) == many or cell not in table:
        yield states
        return
    deed, after = table.entry_of(cell[0], cell[1])
    for state in task.world.nexts(states[-1], deed):
        longer = (*states, state)
        yield from longer_plays(task, table, longer, after, many)
