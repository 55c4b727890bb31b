"""What comes about when a table is followed."""

from dimkeeper.errors import Unlike
from dimkeeper.orders import each_once
from dimkeeper.steps import Steps
from dimkeeper.tables import check_table
from dimkeeper.tasks import check_task


class Walks:
    """What a table does in a task.

    A spot is a pair of a state and a page; a triple is a pair of the number of a stand, as Steps has it, and a page.
    """

    def __init__(self, task, table):
        self.task = task
        self.table = table
        self.steps = Steps(task)
        self._sights = {state: task.sight_of(state) for state in task.world.states}

    def cell_at(self, spot):
        """The cell that is asked at a spot."""
        return spot[1], self._sights[spot[0]]

    def first_spots(self):
        """The spots at which plays begin, in order."""
        return each_once([(state, 1) for state, kept in self.task.standing])

    def spots_behind(self, spot):
        """The spots to which a spot leads, in order; None if its cell lacks an entry."""
        cell = self.cell_at(spot)
        if cell not in self.table:
            return None
        deed, page = self.table.entry_of(cell[0], cell[1])
        return [(state, page) for state in self.task.world.nexts(spot[0], deed)]

    def first_triples(self):
        """The triples at which plays begin, in order."""
        return [(number, 1) for number in self.steps.begun()]

    def triples_behind(self, triple):
        """The triples to which a triple leads, in order; None if its cell lacks an entry, or the deed breaks."""
        cell = (triple[1], self.steps.sight_at(triple[0]))
        if cell not in self.table:
            return None
        deed, page = self.table.entry_of(cell[0], cell[1])
        behind = self.steps.behind(triple[0], deed)
        return None if behind is None else [(number, page) for number in behind]

    def told(self, triple):
        """A triple with the names of its state and its watch state."""
        state, kept = self.steps.stand_of(triple[0])
        return state, triple[1], kept


def check_deeds_known(task, table):
    """Raises Unlike if an entry of a table has a deed that the world lacks."""
    if not all([deed in task.world.deeds for page, sight, deed, after in table.entries]):
        raise Unlike("deeds")


def check_walked(task, table):
    """Raises what is told of a task and a table."""
    check_task(task)
    check_table(table, "table")
    check_deeds_known(task, table)


def walk_until(firsts, leads):
    """What comes about, as it is met, with what is ahead of each thing; and the first thing that does not go on.

    leads tells to which things a thing leads, None if it does not go on; where all do, the second one is None.
    """
    ahead = {thing: None for thing in firsts}
    met = list(ahead)
    at = 0
    while at < len(met):
        behind = leads(met[at])
        if behind is None:
            return ahead, met[at]
        for thing in behind:
            if thing not in ahead:
                ahead[thing] = met[at]
                met.append(thing)
        at += 1
    return ahead, None


def way_to(ahead, thing):
    """The things that lead to this one, from the first one on, itself the last one."""
    way = [thing]
    while ahead[way[-1]] is not None:
        way.append(ahead[way[-1]])
    return way[::-1]
