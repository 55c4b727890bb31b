"""Whether a table serves, and whether it holds."""

from dimkeeper.papers import Denial, Paper
from dimkeeper.walks import Walks, check_walked, walk_until, way_to


class Serves(Paper):
    """The walk of a table that serves."""

    def __init__(self, spots):
        super().__init__("serves", spots)
        self.spots = self.parts[0]


class Holds(Paper):
    """Triples that are closed."""

    def __init__(self, triples):
        super().__init__("holds", triples)
        self.triples = self.parts[0]


class Lacks(Denial):
    """A needed cell without an entry, and the states of a play that stops there."""

    def __init__(self, page, sight, states):
        super().__init__("lacks", page, sight, states)
        self.page = self.parts[0]
        self.sight = self.parts[1]
        self.states = self.parts[2]


class Broken(Denial):
    """The watch state with which a play begins, and its states up to the moment of its break."""

    def __init__(self, first, states):
        super().__init__("broken", first, states)
        self.first = self.parts[0]
        self.states = self.parts[1]


def serves(task, table):
    """A Serves, if no needed cell lacks an entry, otherwise a Lacks."""
    check_walked(task, table)
    walks = Walks(task, table)
    ahead, fault = walk_until(walks.first_spots(), lambda spot: walks.spots_behind(spot))
    if fault is None:
        return Serves(list(ahead))
    page, sight = walks.cell_at(fault)
    return Lacks(page, sight, [state for state, open_page in way_to(ahead, fault)])


def holds(task, table):
    """A Holds, if the table holds, a Lacks, if it does not serve, otherwise a Broken."""
    paper = serves(task, table)
    if not paper:
        return paper
    walks = Walks(task, table)
    ahead, fault = walk_until(walks.first_triples(), lambda triple: walks.triples_behind(triple))
    if fault is None:
        return Holds([walks.told(triple) for triple in ahead])
    way = [walks.told(triple) for triple in way_to(ahead, fault)]
    return Broken(way[0][2], [triple[0] for triple in way])
