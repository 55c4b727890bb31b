"""How a table loses."""

from dimkeeper.check_trees import check_shown
from dimkeeper.closed import Broken, Lacks
from dimkeeper.errors import BadTable
from dimkeeper.papers import Paper
from dimkeeper.tables import check_table
from dimkeeper.trees import Leaf
from dimkeeper.walks import Walks, check_deeds_known, check_walked, walk_until, way_to


class Losing(Paper):
    """A play that breaks at its last moment, or comes there to a cell without an entry."""

    def __init__(self, first, states, pages, deeds, places):
        super().__init__("losing", first, states, pages, deeds, places)
        self.first = self.parts[0]
        self.states = self.parts[1]
        self.pages = self.parts[2]
        self.deeds = self.parts[3]
        self.places = self.parts[4]


def beaten(task, refusal, table):
    """What a refusal says of a table of no more pages: a Lacks or a Broken."""
    check_shown(task, refusal)
    check_table(table, "table")
    check_deeds_known(task, table)
    if table.pages > refusal.pages:
        raise BadTable("pages")
    leaf = leaf_reached(task, refusal.tree, table)
    page = 1
    for at, state in enumerate(leaf.states):
        cell = (page, task.sight_of(state))
        if cell not in table:
            return Lacks(cell[0], cell[1], leaf.states[:at + 1])
        page = table.entry_of(cell[0], cell[1])[1]
    return Broken(leaf.first, leaf.states)


def leaf_reached(task, tree, table):
    """The leaf to which the entries of a table lead in a tree; what it lacks is answered by the first tree."""
    # The pages of the table are numbered as it comes to them.
    pages = [1]
    while not isinstance(tree, Leaf):
        cell = (pages[tree.page - 1], tree.sight)
        row, at = 0, 0
        if cell in table:
            deed, page = table.entry_of(cell[0], cell[1])
            if page not in pages:
                pages.append(page)
            row, at = task.world.deeds.index(deed), pages.index(page)
        tree = tree.parts[row][at]
    return tree


def losing(task, table):
    """The Losing of the first of the shortest plays that lose, or None if the table holds."""
    check_walked(task, table)
    walks = Walks(task, table)
    ahead, fault = walk_until(walks.first_triples(), lambda triple: walks.triples_behind(triple))
    if fault is None:
        return None
    way = [walks.told(triple) for triple in way_to(ahead, fault)]
    cells = [walks.cell_at(triple) for triple in way]
    deeds = [table.entry_of(page, sight)[0] for page, sight in cells if (page, sight) in table]
    return Losing(way[0][2], [triple[0] for triple in way], [triple[1] for triple in way], deeds,
                  [triple[2] for triple in way])
