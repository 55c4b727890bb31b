"""Whether delays, least delays and sure moments are right."""

from dimkeeper.checks import is_integer, is_one_of, is_within
from dimkeeper.delays import Never, Patience
from dimkeeper.closed import holds
from dimkeeper.forms import one_form
from dimkeeper.heights import Delay, Ring, check_delayed, heights_of, waiting_of
from dimkeeper.moments import SureTime, moments_of
from dimkeeper.papers import is_called
from dimkeeper.tables import Table, is_table
from dimkeeper.tasks import check_pages, check_task
from dimkeeper.tree_faults import first_fault, play_fault
from dimkeeper.trees import Tree
from dimkeeper.waiting import Asking, entries_by_cell, greatest_delay
from dimkeeper.waits import check_wait


def shows_delay(task, table, wait, value):
    """Whether value is a right Delay or a right Ring of a table."""
    check_delayed(task, table, wait)
    if isinstance(value, Delay) and is_called(value, "Delay"):
        return is_right_delay(task, table, wait, value)
    if isinstance(value, Ring) and is_called(value, "Ring"):
        return is_right_ring(task, table, wait, value)
    return False


def is_right_delay(task, table, wait, value):
    """Whether number, heights and play are those of a table."""
    waiting = waiting_of(task, table, wait)
    number = greatest_delay(waiting)
    if number is None or not is_integer(value.number) or value.number != number:
        return False
    if value.heights != heights_of(waiting):
        return False
    # True is equal to 1, but no integer.
    if not all([is_integer(page) and is_integer(height) for state, page, height in value.heights]):
        return False
    if number == 0:
        return value.play == ()
    asking = waiting.asking
    spots = spots_along(asking, waiting.entries, value.play)
    if spots is None or len(spots) < number or not asking.asks(spots[-number]):
        return False
    return asking.answered_at(spots[-1]) and not any([asking.answered_at(spot) for spot in spots[-number:-1]])


def is_right_ring(task, table, wait, value):
    """Whether play and at tell a ring of a table."""
    asking = Asking(task, wait)
    spots = spots_along(asking, entries_by_cell(table), value.play)
    if spots is None or not is_within(value.at, 0, len(spots) - 2) or spots[value.at] != spots[-1]:
        return False
    return is_closing(asking, spots, value.at)


def spots_along(asking, entries, states):
    """The spots of the first moments of a play along these states; None if they are none. The last cell may lack."""
    if not isinstance(states, tuple) or not states:
        return None
    spots = [spot for spot in asking.first_spots() if spot[0] == states[0]]
    for state in states[1:]:
        spots.extend([spot for spot in asking.behind(entries, spots[-1]) if spot[0] == state] if spots else ())
    return spots if len(spots) == len(states) else None


def is_closing(asking, spots, at):
    """Whether some moment asks and none from it on, or from this one on, shows an answer."""
    shown = [place for place, spot in enumerate(spots) if asking.answered_at(spot)]
    last = shown[-1] if shown else -1
    return at > last and any([asking.asks(spot) for spot in spots[last + 1:]])


def is_ring(asking, spots):
    """Whether spots are those of a ring."""
    return any([spot == spots[-1] and is_closing(asking, spots, at) for at, spot in enumerate(spots[:-1])])


def is_late(asking, spots, many):
    """Whether spots are those of the first moments of a play that are late for so many moments; for 0 it is enough
    that one asks."""
    for at, spot in enumerate(spots):
        row = spots[at:at + many]
        if asking.asks(spot) and len(row) == many and not any([asking.answered_at(behind) for behind in row]):
            return True
    return False


def wait_fault(asking, leaf, above, many):
    """What is wrong with a leaf behind answers: it is to break, or to be late for so many moments, a ring for None."""
    what = play_fault(asking.task, leaf, above)
    if (leaf.states[0], leaf.first) not in asking.task.standing:
        return what
    spots = spots_along(asking, {entry[:2]: entry[2:] for entry in above}, leaf.states)
    if spots is None:
        return what
    is_fine = is_ring(asking, spots) if many is None else is_late(asking, spots, many)
    return None if is_fine else what


def is_wait_tree(task, wait, k, tree, many):
    """Whether a value is a tree for k pages at each leaf of which a play breaks or waits so long."""
    asking = Asking(task, wait)

    def leaf_fault(_, leaf, above):
        return wait_fault(asking, leaf, above, many)

    return isinstance(tree, Tree) and first_fault(task, k, tree, (), leaf_fault) is None


def shows_patience(task, wait, k, value):
    """Whether value is a right Patience or a right Never."""
    check_task(task)
    check_wait(wait)
    check_pages(k)
    if isinstance(value, Never) and is_called(value, "Never"):
        return is_wait_tree(task, wait, k, value.tree, None)
    if not isinstance(value, Patience) or not is_called(value, "Patience") or not is_within(value.number, 0, None):
        return False
    if not has_table(task, k, value.table) or not shows_delay(task, table_of(value.table), wait, value.delay):
        return False
    if value.delay.word != "delay" or value.delay.number != value.number:
        return False
    if value.number == 0:
        return value.tree is None
    return is_wait_tree(task, wait, k, value.tree, value.number - 1)


def has_table(task, k, rows):
    """Whether a value has the entries of a table of at most k pages, in one form, that holds the task."""
    if not is_table(k, rows) or not all([is_one_of(row[2], task.world.deeds) for row in rows]):
        return False
    table = table_of(rows)
    return table.entries == rows and bool(holds(task, table)) and one_form(task, table) == table


def table_of(rows):
    """The table of these entries, with the pages that they mention."""
    return Table(max([max(row[0], row[3]) for row in rows]), rows)


def shows_time(task, k, value):
    """Whether value is a right SureTime."""
    check_task(task)
    check_pages(k)
    if not isinstance(value, SureTime) or not is_called(value, "SureTime") or not is_within(value.number, 0, None):
        return False
    return keeps(task, k, value.table, value.number) and is_short_tree(task, k, value.tree, value.number)


def keeps(task, k, rows, number):
    """Whether these are entries of a table of at most k pages that keeps so many moments, none for 0."""
    if number == 0:
        return rows == ()
    if not is_table(k, rows) or not all([is_one_of(row[2], task.world.deeds) for row in rows]):
        return False
    many = moments_of(task, Table(k, rows))
    return many is None or many >= number


def is_short_tree(task, k, tree, number):
    """Whether a value is a right tree for k pages, each leaf of which breaks at moment number or ahead of it."""
    def leaf_fault(_, leaf, above):
        return "long" if len(leaf.states) > number + 1 else play_fault(task, leaf, above)

    return isinstance(tree, Tree) and first_fault(task, k, tree, (), leaf_fault) is None
