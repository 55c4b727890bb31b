"""The tables that hold."""

from dimkeeper.checks import is_within
from dimkeeper.closed import holds
from dimkeeper.errors import BadNumbers, NotKept, NoTable
from dimkeeper.forms import one_form
from dimkeeper.papers import Paper
from dimkeeper.search import Search, check_searched
from dimkeeper.tables import check_table
from dimkeeper.tasks import check_pages, check_task
from dimkeeper.walks import check_deeds_known


class Kept(Paper):
    """A table of so many pages that holds, and triples that are closed for it."""

    def __init__(self, pages, entries, triples):
        super().__init__("kept", pages, entries, triples)
        self.pages = self.parts[0]
        self.entries = self.parts[1]
        self.triples = self.parts[2]


def kept_tables(task, k):
    """Yields the tables of the list of k, in order."""
    check_searched(task, k)
    search = Search(task, k)
    while search.goes_to_end():
        yield search.end_table()


def count_kept(task, k):
    """How many tables the list of k has."""
    check_searched(task, k)
    search = Search(task, k)
    many = 0
    while search.goes_to_end():
        many += 1
    return many


def kept_at(task, k, number):
    """The table with this number in the list of k."""
    check_task(task)
    check_pages(k)
    if not is_within(number, 0, None):
        raise BadNumbers("number")
    check_searched(task, k)
    search = Search(task, k)
    at = 0
    while search.goes_to_end():
        if at == number:
            return search.end_table()
        at += 1
    raise NoTable(number)


def number_of(task, k, table):
    """The number in the list of k of the one form of a table."""
    check_task(task)
    check_pages(k)
    check_table(table, "table")
    check_deeds_known(task, table)
    form = one_form(task, table)
    if not holds(task, table):
        raise NotKept("holds")
    if form.pages > k:
        raise NotKept("pages")
    check_searched(task, k)
    search = Search(task, k)
    at = 0
    while search.goes_to_end() and search.end_table() != form:
        at += 1
    return at


def first_kept(task, k):
    """The Kept of the first table of the list of k, or None if the list is empty."""
    check_searched(task, k)
    search = Search(task, k)
    if not search.goes_to_end():
        return None
    table = search.end_table()
    return Kept(table.pages, search.given(), holds(task, table).triples)
