"""How long a table keeps those waiting who ask."""

from dimkeeper.closed import serves
from dimkeeper.errors import NoEntry
from dimkeeper.papers import Denial, Paper
from dimkeeper.tables import check_table
from dimkeeper.tasks import check_task
from dimkeeper.waiting import Asking, Waiting, entries_by_cell, greatest_delay
from dimkeeper.waits import check_wait


class Delay(Paper):
    """The delay of a table, the height of each waiting spot, and a play that waits so long."""

    def __init__(self, number, heights, play):
        super().__init__("delay", number, heights, play)
        self.number = self.parts[0]
        self.heights = self.parts[1]
        self.play = self.parts[2]


class Ring(Denial):
    """A play that waits for ever, and the moment at which its last spot was come to already."""

    def __init__(self, play, at):
        super().__init__("ring", play, at)
        self.play = self.parts[0]
        self.at = self.parts[1]


def check_delayed(task, table, wait):
    """Raises what is told of a task, a table that is to serve it, and a wait."""
    check_task(task)
    check_table(table, "table")
    check_wait(wait)
    paper = serves(task, table)
    if not paper:
        raise NoEntry(paper.page, paper.sight)


def waiting_of(task, table, wait):
    """The waits in the plays of a table."""
    return Waiting(Asking(task, wait), entries_by_cell(table))


def heights_of(waiting):
    """The height of each waiting spot, in the order of the walk, where no wait is endless."""
    return tuple([(state, page, waiting.run_of((state, page)) + 1) for state, page in waiting.waited_at()])


def delay(task, table, wait):
    """The Delay of a table, or a Ring if it has no delay."""
    check_delayed(task, table, wait)
    return told_delay(task, table, wait)


def told_delay(task, table, wait):
    """The Delay of a table that serves, or a Ring if it has no delay."""
    waiting = waiting_of(task, table, wait)
    number = greatest_delay(waiting)
    if number is None:
        states, at = waiting.ring_from(waiting.longest())
        return Ring(states, at)
    return Delay(number, heights_of(waiting), waiting.play_to(waiting.longest(), number) if number else ())
