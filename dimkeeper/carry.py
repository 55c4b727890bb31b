"""Promises about what a world was made of, carried to the made world."""

from dimkeeper.errors import BadWorld
from dimkeeper.made import Made
from dimkeeper.tasks import Task
from dimkeeper.watches import check_watch


def made_task(made, watch, standing=None):
    """The task of a made world with its blur and a promise about what its labels stand for."""
    if not isinstance(made, Made) or made.blur is None:
        raise BadWorld("made")
    check_watch(watch, "watch")
    return Task(made.world, made.blur, watch.carried(made.labels), standing)
