"""Smudges: another page of the notebook lies open than the one that was written."""

from dimkeeper.checks import are_names, is_within
from dimkeeper.errors import BadSmudges
from dimkeeper.papers import Denial, Paper
from dimkeeper.reader import Reader
from dimkeeper.smudging import Smudging
from dimkeeper.tables import check_table
from dimkeeper.tasks import check_task
from dimkeeper.waiting import entries_by_cell
from dimkeeper.walks import check_deeds_known, walk_until, way_to

ANY = "any"
AT = "at"
MOST_SMUDGES = 20


class Smudges:
    """How many smudges can come in one play, None for any number, and at which labels, None for all."""

    def __init__(self, many, labels=None):
        if many is not None and not is_within(many, 0, MOST_SMUDGES):
            raise BadSmudges("many")
        if labels is not None and labels != [] and labels != () and not are_names(labels):
            raise BadSmudges("labels")
        self.many = many
        self.labels = None if labels is None else tuple(sorted(labels))

    def __eq__(self, other):
        return isinstance(other, Smudges) and self.many == other.many and self.labels == other.labels

    def __str__(self):
        words = [ANY if self.many is None else str(self.many)]
        return " ".join(words if self.labels is None else [*words, AT, *self.labels])

    @classmethod
    def read(cls, text):
        """The smudges with this text."""
        reader = Reader(text)
        if reader.due() == ANY:
            reader.take_mark(ANY)
            many = None
        else:
            many = reader.take_number(0, MOST_SMUDGES)
        labels = None
        if reader.due() is not None:
            reader.take_mark(AT)
            labels = reader.take_ascending((), None, None)
        return cls(many, labels)


class Stays(Paper):
    """Cases that are closed: at each of them the cell has an entry, and its deed does not break."""

    def __init__(self, cases):
        super().__init__("stays", cases)
        self.cases = self.parts[0]


class Slips(Denial):
    """A play that breaks or comes to a cell without an entry: its first watch state, its states, the open pages."""

    def __init__(self, first, states, pages):
        super().__init__("slips", first, states, pages)
        self.first = self.parts[0]
        self.states = self.parts[1]
        self.pages = self.parts[2]


def check_smudges(value):
    """Raises BadSmudges unless the value is a Smudges."""
    if not isinstance(value, Smudges):
        raise BadSmudges("smudges")


def check_smudged(task, table, smudges):
    """Raises what is told of a task, a table and smudges."""
    check_task(task)
    check_table(table, "table")
    check_smudges(smudges)
    check_deeds_known(task, table)


def holds_smudged(task, table, smudges):
    """A Stays with the cases that come about, or a Slips."""
    check_smudged(task, table, smudges)
    smudging = Smudging(task, table.pages, smudges)
    entries = entries_by_cell(table)
    told = {}
    ahead, fault = walk_until(smudging.first_cases(), lambda case: smudging.leads(entries, case, told))
    if fault is None:
        return Stays(list(ahead))
    way = way_to(ahead, fault)
    return Slips(way[0][2], [case[0] for case in way], [case[1] for case in way])
