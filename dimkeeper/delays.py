"""The least delays of tables that hold."""

from dimkeeper.checks import is_within
from dimkeeper.errors import BadNumbers
from dimkeeper.heights import told_delay
from dimkeeper.papers import Denial, Paper
from dimkeeper.search import check_searched
from dimkeeper.tasks import MOST_PAGES, check_task
from dimkeeper.wait_search import shortest_wait, wait_tree
from dimkeeper.waits import check_wait


class Patience(Paper):
    """The least delay, a table that has it, its Delay, and a tree which shows that no table waits shorter."""

    def __init__(self, number, table, delay, tree):
        super().__init__("patience", number, table, delay, tree)
        self.number = self.parts[0]
        self.table = self.parts[1]
        self.delay = self.parts[2]
        self.tree = self.parts[3]


class Never(Denial):
    """A tree which shows that no table holds and has a delay."""

    def __init__(self, tree):
        super().__init__("never", tree)
        self.tree = self.parts[0]


def least_delay(task, wait, k):
    """The Patience of k pages, or a Never if no table of at most k pages holds and has a delay."""
    check_task(task)
    check_wait(wait)
    check_searched(task, k)
    found = shortest_wait(task, wait, k)
    if found is None:
        return Never(wait_tree(task, wait, k, None))
    number, table = found
    tree = None if number == 0 else wait_tree(task, wait, k, number - 1)
    return Patience(number, table.entries, told_delay(task, table, wait), tree)


def check_most(most):
    """Raises BadNumbers unless most is a number of pages."""
    if not is_within(most, 1, MOST_PAGES):
        raise BadNumbers("most")


def all_least_delays(task, wait, most):
    """What least_delay tells for 1 to most pages."""
    check_task(task)
    check_wait(wait)
    check_most(most)
    check_searched(task, most)
    return [least_delay(task, wait, k) for k in range(1, most + 1)]


def delays(task, wait, most):
    """The least delays for 1 to most pages, None where there is none."""
    return tuple([paper.number if paper else None for paper in all_least_delays(task, wait, most)])
