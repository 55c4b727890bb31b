"""Tasks: a world, a blur, a watch and the stands at which a play may begin."""

from dimkeeper.blurs import check_blur
from dimkeeper.checks import is_pair, is_row, is_within, twice
from dimkeeper.errors import BadNumbers, BadStanding, BadTask
from dimkeeper.orders import come_about, order_of
from dimkeeper.stands import check_deeds_fit, check_labels_known, in_order, is_stand
from dimkeeper.watches import Watch, check_watch
from dimkeeper.worlds import check_world

MOST_PAGES = 200
MOST_CHOICES = 1000000


class Task:
    """A promise about a world that is seen through a blur."""

    def __init__(self, world, blur, watch, standing=None):
        check_world(world, "world")
        check_blur(blur, "blur")
        check_watch(watch, "watch")
        if standing is None:
            standing = [(start, watch.first) for start in world.starts]
        if not is_standing(world, watch, standing):
            raise BadStanding("standing")
        check_labels_known(world, blur)
        check_labels_known(world, watch)
        check_deeds_fit(world, watch)
        self.world = world
        self.blur = blur
        self.watch = watch
        self.standing = in_order(world, watch, [tuple(stand) for stand in standing])
        met = order_of(come_about([stand[0] for stand in self.standing], lambda state: world.all_nexts(state)))
        self.states = tuple([state for state in world.states if state in met])
        self.sights = tuple(sorted(set([self.sight_of(state) for state in self.states])))

    def stands(self):
        """The stands that come about, in order."""
        met = come_about(self.standing, lambda stand: stands_behind(self, stand))
        return in_order(self.world, self.watch, met)

    def sight_of(self, state):
        """The sight of any state of the world."""
        return self.blur.sight_of(self.world.label_of(state))

    def place_of(self, stand, deed):
        """The place behind a deed from any stand."""
        if not is_pair(stand):
            raise BadStanding("stand")
        return self.watch.place_of(stand[1], self.world.label_of(stand[0]), deed)

    def changed(self, *, world=None, blur=None, watch=None, standing=None):
        """The task with these parts; the standing is that of the starts unless it is told."""
        return Task(self.world if world is None else world, self.blur if blur is None else blur,
                    self.watch if watch is None else watch, standing)

    def __eq__(self, other):
        return (isinstance(other, Task) and self.world == other.world and self.blur == other.blur
                and self.watch == other.watch and self.standing == other.standing)


def check_task(value):
    """Raises BadTask unless the value is a task."""
    if not isinstance(value, Task):
        raise BadTask("task")


def is_standing(world, watch, stands):
    """Whether a value is a list of one or more stands, each once."""
    if not is_row(stands) or len(stands) == 0:
        return False
    if not all([is_stand(world, watch, stand) for stand in stands]):
        return False
    return not twice([tuple(stand) for stand in stands])


def stands_behind(task, stand):
    """The stands to which the deeds that do not break lead from a stand, deed by deed."""
    places = [(deed, task.place_of(stand, deed)) for deed in task.world.deeds]
    return [(state, place) for deed, place in places if place != Watch.BROKEN
            for state in task.world.nexts(stand[0], deed)]


def check_pages(k):
    """Raises BadNumbers unless k is a number of pages."""
    if not is_within(k, 1, MOST_PAGES):
        raise BadNumbers("k")


def choices(task, k):
    """The choices of a task and a number of pages."""
    check_task(task)
    check_pages(k)
    many = 1
    for at in range(1, k * len(task.sights) + 1):
        many = many * len(task.world.deeds) * min(at + 1, k)
        if many > MOST_CHOICES:
            return MOST_CHOICES
    return many
