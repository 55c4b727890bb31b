"""Pages traded against promises."""

from dimkeeper.checks import is_name, is_pair, is_row
from dimkeeper.errors import BadFront, TooMany
from dimkeeper.keepers import first_kept
from dimkeeper.orders import each_once, refuse_twice
from dimkeeper.papers import Paper
from dimkeeper.promises import both
from dimkeeper.refuse import refused
from dimkeeper.search import check_searched
from dimkeeper.tasks import Task, check_pages, check_task
from dimkeeper.watches import Watch

MOST_PROMISES = 4


class PromiseFront(Paper):
    """The greatest sets of promises held together, each with its Kept, and the least ones that are not, each with
    its Refusal."""

    def __init__(self, held, short):
        super().__init__("promisefront", held, short)
        self.held = self.parts[0]
        self.short = self.parts[1]


def joint(task, watches):
    """The task in which all of these watches are to be held, each from its own first watch state on."""
    check_task(task)
    if not is_row(watches) or not watches or not all([isinstance(watch, Watch) for watch in watches]):
        raise BadFront("watches")
    watch = watches[0]
    for other in watches[1:]:
        watch = both(watch, other)
    states = each_once([state for state, kept in task.standing])
    return Task(task.world, task.blur, watch, [(state, watch.first) for state in states])


def is_promise(value):
    """Whether a value is a pair of a name and a watch."""
    return is_pair(value) and is_name(value[0]) and isinstance(value[1], Watch)


def check_promises(task, promises, k):
    """Raises what is told of a task, promises and a number of pages, but for too many of them."""
    check_task(task)
    if not is_row(promises) or not promises or not all([is_promise(promise) for promise in promises]):
        raise BadFront("promises")
    check_pages(k)
    refuse_twice([name for name, watch in promises])


def joint_of(task, promises, places):
    """The joint of the promises at these places."""
    return joint(task, [promises[place][1] for place in places])


def sets_of(many):
    """All sets of one or more places, ascending tuples, in order."""
    rows = [()]
    for place in range(many):
        rows = rows + [(*row, place) for row in rows]
    return sorted(rows)[1:]


def lies_in(one, other):
    """Whether all of one are among other."""
    return all([part in other for part in one])


def promise_front(task, promises, k):
    """The PromiseFront for k pages."""
    check_promises(task, promises, k)
    if len(promises) > MOST_PROMISES:
        raise TooMany("promises", MOST_PROMISES)
    joint(task, [watch for name, watch in promises])
    check_searched(task, k)
    tasks = {places: joint_of(task, promises, places) for places in sets_of(len(promises))}
    papers = {places: first_kept(tasks[places], k) for places in tasks}
    held = [places for places in tasks if papers[places] is not None]
    short = [places for places in tasks if papers[places] is None]
    greatest = [places for places in held if not any([other != places and lies_in(places, other) for other in held])]
    least = [places for places in short if not any([other != places and lies_in(other, places) for other in short])]
    names = [promise[0] for promise in promises]
    return PromiseFront([(names_at(names, places), papers[places]) for places in greatest],
                        [(names_at(names, places), refused(tasks[places], k)) for places in least])


def names_at(names, places):
    """The tuple of the names at these places."""
    return tuple([names[place] for place in places])
