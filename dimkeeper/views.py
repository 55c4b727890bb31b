"""Views: what may be, as a keeper can tell it."""

from dimkeeper.checks import is_one_of, is_row
from dimkeeper.errors import BadLog, BadView, Breaks, NoDeed, NoSight, NoWay
from dimkeeper.steps import MOST_VIEWS, Steps, branches_met
from dimkeeper.tasks import check_task


def checked_view(task, view):
    """The steps of a task and the numbers of a view; raises what is told of both."""
    check_task(task)
    steps = Steps(task)
    numbers = steps.viewed(view)
    if numbers is None:
        raise BadView("view")
    return steps, numbers


def told_splits(steps, numbers):
    """The splits of a view, with its stands."""
    return tuple([(sight, steps.view_of(part)) for sight, part in steps.splits(numbers)])


def splits_of(task, view):
    """The splits of a view."""
    steps, numbers = checked_view(task, view)
    return told_splits(steps, numbers)


def beginnings(task):
    """The splits of the standing."""
    check_task(task)
    steps = Steps(task)
    return told_splits(steps, steps.begun())


def checked_deed(task, view, deed):
    """The steps of a task and the numbers of a view; raises what is told of these and of a deed."""
    steps, numbers = checked_view(task, view)
    if not is_one_of(deed, steps.deeds):
        raise NoDeed(deed)
    return steps, numbers


def fault_of(task, view, deed):
    """The first stand at which a deed breaks a view, or None."""
    steps, numbers = checked_deed(task, view, deed)
    fault = steps.fault(numbers, deed)
    return None if fault is None else steps.stand_of(fault)


def next_view(task, view, deed):
    """The next view under a deed."""
    steps, numbers = checked_deed(task, view, deed)
    return steps.view_of(followed_by(steps, numbers, deed))


def followed_by(steps, numbers, deed):
    """The numbers of the next view; raises Breaks."""
    fault = steps.fault(numbers, deed)
    if fault is not None:
        state, place = steps.stand_of(fault)
        raise Breaks(state, place)
    return steps.following(numbers, deed)


def views_met(task):
    """Yields the views that come about, as they are met."""
    check_task(task)
    steps = Steps(task)
    branches = branches_met(steps, steps.split_views(steps.begun()), MOST_VIEWS)
    for numbers in branches:
        yield steps.view_of(numbers)


def view_after(task, log):
    """The view behind a log."""
    check_task(task)
    if not is_row(log):
        raise BadLog("log")
    steps = Steps(task)
    numbers = steps.begun()
    for at, item in enumerate(log):
        numbers = seen_by(steps, numbers, item) if at % 2 == 0 else done_by(steps, numbers, item)
    return steps.view_of(numbers)


def seen_by(steps, numbers, sight):
    """The numbers of the view behind a sight."""
    if not is_one_of(sight, steps.task.blur.sights):
        raise NoSight(sight)
    shown = [part for name, part in steps.splits(numbers) if name == sight]
    if not shown:
        raise NoWay(sight)
    return shown[0]


def done_by(steps, numbers, deed):
    """The numbers of the view behind a deed."""
    if not is_one_of(deed, steps.deeds):
        raise NoDeed(deed)
    return followed_by(steps, numbers, deed)
