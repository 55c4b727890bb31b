"""Notebooks that are exchanged for one another."""

from dimkeeper.checks import is_row, is_within
from dimkeeper.errors import BadTable, TooMany
from dimkeeper.orders import come_about
from dimkeeper.papers import Denial, Paper
from dimkeeper.steps import Steps
from dimkeeper.tables import Table
from dimkeeper.tasks import check_task
from dimkeeper.walks import check_deeds_known

MOST_TABLES = 20
MOST_HANDINGS = 200


class Handed(Paper):
    """All (index of a table, state, page, watch state) that come about with handings."""

    def __init__(self, closed):
        super().__init__("handed", closed)
        self.closed = self.parts[0]


class Dropped(Denial):
    """A play with handings that breaks or stops: its first watch state, its states, the pairs (index, page) asked."""

    def __init__(self, first, states, places):
        super().__init__("dropped", first, states, places)
        self.first = self.parts[0]
        self.states = self.parts[1]
        self.places = self.parts[2]


class Hands:
    """What comes next with handings; a case is (index of a table, page, number of a stand as Steps has it)."""

    def __init__(self, task, tables, handings):
        self.tables = tables
        self.steps = Steps(task)
        self._taken = {}
        for index, page, other, open_page in handings:
            self._taken.setdefault((index, page), []).append((other, open_page))

    def all_taken(self, place):
        """The pairs (index, page) that may be asked where this one is open: itself, and those that are taken up."""
        return come_about((place,), lambda pair: self._taken.get(pair, ()))

    def taken(self, case):
        """The cases to which a case leads by one handing."""
        return [(*place, case[2]) for place in self._taken.get(case[:2], ())]

    def behind(self, case):
        """The cases to which the entry of a case leads, ahead of handings; None if it lacks or its deed breaks."""
        index, page, number = case
        sight = self.steps.sight_at(number)
        if (page, sight) not in self.tables[index]:
            return None
        deed, after = self.tables[index].entry_of(page, sight)
        numbers = self.steps.behind(number, deed)
        return None if numbers is None else [(index, after, reached) for reached in numbers]


def check_handed(task, tables, handings):
    """Raises what is told of a task, tables and handings, but for too many of them."""
    check_task(task)
    if not is_row(tables) or not tables or not all([isinstance(table, Table) for table in tables]):
        raise BadTable("tables")
    if not is_row(handings) or not all([is_handing(tables, handing) for handing in handings]):
        raise BadTable("handings")
    for table in tables:
        check_deeds_known(task, table)


def is_handing(tables, value):
    """Whether a value is a row of an index of a table, a page of it, and again such an index and such a page."""
    if not is_row(value) or len(value) != 4:
        return False
    return is_place(tables, value[:2]) and is_place(tables, value[2:])


def is_place(tables, pair):
    """Whether a pair is an index of a table and a page of it."""
    return is_within(pair[0], 0, len(tables) - 1) and is_within(pair[1], 1, tables[pair[0]].pages)


def handed(task, tables, handings):
    """A Handed, if no play with these handings breaks or stops, otherwise a Dropped."""
    check_handed(task, tables, handings)
    if len(tables) > MOST_TABLES:
        raise TooMany("tables", MOST_TABLES)
    if len(handings) > MOST_HANDINGS:
        raise TooMany("handings", MOST_HANDINGS)
    hands = Hands(task, tables, handings)
    # For each case the one at the moment ahead from which it came.
    ahead = {}
    layer = cases_met(hands, ahead, [((0, 1, number), None) for number in hands.steps.begun()])
    while layer:
        faults = [case for case in layer if hands.behind(case) is None]
        if faults:
            return dropped_at(hands, ahead, faults[0])
        layer = cases_met(hands, ahead, [(behind, case) for case in layer for behind in hands.behind(case)])
    closed = []
    for index, page, number in sorted(ahead):
        state, kept = hands.steps.stand_of(number)
        closed.append((index, state, page, kept))
    return Handed(closed)


def cases_met(hands, ahead, firsts):
    """The cases that come about first at one moment: these, told with what is ahead of them, and all that come from
    them by handings."""
    due = list(firsts)
    met = []
    while due:
        case, last = due.pop()
        if case not in ahead:
            ahead[case] = last
            met.append(case)
            due.extend([(taken, last) for taken in hands.taken(case)])
    return met


def dropped_at(hands, ahead, case):
    """The Dropped of a play that stops or breaks at a case."""
    way = [case]
    while ahead[way[-1]] is not None:
        way.append(ahead[way[-1]])
    stands = [hands.steps.stand_of(number) for index, page, number in way[::-1]]
    return Dropped(stands[0][1], [stand[0] for stand in stands], [(index, page) for index, page, number in way[::-1]])
