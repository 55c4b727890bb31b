"""Whether fronts are right."""

from dimkeeper.blurs import MOST_SHARED_OUT, blurs_of, is_finer
from dimkeeper.check_kept import shows_kept
from dimkeeper.check_patience import shows_patience, shows_time
from dimkeeper.check_trees import shows_refusal
from dimkeeper.checks import is_integer, is_within
from dimkeeper.delay_fronts import DelayFront
from dimkeeper.delays import Never, Patience, check_most
from dimkeeper.errors import TooMany
from dimkeeper.moment_fronts import MomentFront
from dimkeeper.papers import is_called
from dimkeeper.promise_fronts import MOST_PROMISES, PromiseFront, check_promises, joint, lies_in, sets_of
from dimkeeper.sight_fronts import SightFront, seen_through
from dimkeeper.tasks import check_pages, check_task
from dimkeeper.waits import check_wait


def are_points(points, most):
    """Whether a value is pairs of integers, the first ones of which rise within 1 to most."""
    if not are_pairs(points) or not all([is_within(pages, 1, most) and is_integer(number) for pages, number in points]):
        return False
    return all([one[0] < other[0] for one, other in zip(points, points[1:])])


def are_pairs(value):
    """Whether a value is a tuple of tuples of two."""
    return isinstance(value, tuple) and all([isinstance(pair, tuple) and len(pair) == 2 for pair in value])


def are_steps(points, steps, most, is_right):
    """Whether steps have for each point a pair of papers that are right for its pages, and for the last ones of its
    stretch, which for the last point are most; is_right tells it of pages, a number and a paper."""
    if not are_pairs(steps) or len(steps) != len(points):
        return False
    lasts = [pages - 1 for pages, number in points[1:]] + [most]
    return all([is_right(point[0], point[1], pair[0]) and is_right(last, point[1], pair[1])
                for point, last, pair in zip(points, lasts, steps)])


def shows_delay_front(task, wait, most, value):
    """Whether value is a right DelayFront."""
    check_task(task)
    check_wait(wait)
    check_most(most)
    if not isinstance(value, DelayFront) or not is_called(value, "DelayFront"):
        return False
    points = value.points
    if not are_points(points, most):
        return False
    if not all([one[1] > other[1] for one, other in zip(points, points[1:])]):
        return False

    def is_right(pages, number, paper):
        return isinstance(paper, Patience) and shows_patience(task, wait, pages, paper) and paper.number == number

    if not are_steps(points, value.steps, most, is_right):
        return False
    ahead = points[0][0] - 1 if points else most
    if ahead == 0:
        return value.never is None
    return isinstance(value.never, Never) and shows_patience(task, wait, ahead, value.never)


def shows_moment_front(task, most, value):
    """Whether value is a right MomentFront."""
    check_task(task)
    check_most(most)
    if not isinstance(value, MomentFront) or not is_called(value, "MomentFront"):
        return False
    points = value.points
    if not are_points(points, most):
        return False
    last = most
    if value.kept is not None:
        if not shows_kept(task, value.kept) or value.kept.pages > most:
            return False
        last = value.kept.pages - 1
    if not points:
        return last == 0 and value.steps == ()
    if points[0][0] != 1 or points[-1][0] > last:
        return False
    if not all([one[1] < other[1] for one, other in zip(points, points[1:])]):
        return False
    return are_steps(points, value.steps, last,
                     lambda pages, number, paper: shows_time(task, pages, paper) and paper.number == number)


def has_kept(task, k, paper):
    """Whether a paper is a right Kept of at most k pages."""
    return shows_kept(task, paper) and paper.pages <= k


def has_refusal(task, k, paper):
    """Whether a paper is a right Refusal of k pages."""
    return shows_refusal(task, paper) and paper.pages == k


def are_parting(all_of, enough, short, lies_below):
    """Whether these two rows part all of them: each is above one of the first row or below one of the second, and
    none of a row is below another one of it; lies_below tells whether one is below, or the same as, another one."""
    for one in all_of:
        is_above = any([lies_below(other, one) for other in enough])
        if not is_above and not any([lies_below(one, other) for other in short]):
            return False
    return is_apart(enough, lies_below) and is_apart(short, lies_below)


def is_apart(row, lies_below):
    """Whether none of a row is below another one of it."""
    return not any([lies_below(one, other) for at, one in enumerate(row) for place, other in enumerate(row)
                    if at != place])


def places_in(all_of, row):
    """The places of those in a row among all of them; None unless they stand there, each once, in order."""
    if not all([one in all_of for one in row]):
        return None
    places = [all_of.index(one) for one in row]
    return places if all([one < other for one, other in zip(places, places[1:])]) else None


def shows_sight_front(task, k, value):
    """Whether value is a right SightFront."""
    check_task(task)
    check_pages(k)
    if not isinstance(value, SightFront) or not is_called(value, "SightFront"):
        return False
    if len(task.world.labels) > MOST_SHARED_OUT or not are_pairs(value.enough) or not are_pairs(value.short):
        return False
    blurs = list(blurs_of(task.world.labels))
    enough = [blur for blur, paper in value.enough]
    short = [blur for blur, paper in value.short]
    if places_in(blurs, enough) is None or places_in(blurs, short) is None:
        return False
    if not all([has_kept(seen_through(task, blur), k, paper) for blur, paper in value.enough]):
        return False
    if not all([has_refusal(seen_through(task, blur), k, paper) for blur, paper in value.short]):
        return False
    # What is coarser stands lower: it shows less.
    return are_parting(blurs, enough, short, lambda one, other: is_finer(other, one))


def shows_promise_front(task, promises, k, value):
    """Whether value is a right PromiseFront."""
    check_promises(task, promises, k)
    if len(promises) > MOST_PROMISES:
        return False
    watches = [watch for name, watch in promises]
    if joint_or_none(task, watches) is None:
        return False
    if not isinstance(value, PromiseFront) or not is_called(value, "PromiseFront"):
        return False
    if not are_pairs(value.held) or not are_pairs(value.short):
        return False
    names = [name for name, watch in promises]
    sets = sets_of(len(promises))
    told = [tuple([names[place] for place in places]) for places in sets]
    held = [names_in for names_in, paper in value.held]
    short = [names_in for names_in, paper in value.short]
    if places_in(told, held) is None or places_in(told, short) is None:
        return False
    joints = {row: joint_or_none(task, [watches[names.index(name)] for name in row]) for row in held + short}
    if not all([joints[row] is not None and has_kept(joints[row], k, paper) for row, paper in value.held]):
        return False
    if not all([joints[row] is not None and has_refusal(joints[row], k, paper) for row, paper in value.short]):
        return False
    # A set that has another one within it stands lower: it is held less.
    return are_parting(told, held, short, lambda one, other: lies_in(other, one))


def joint_or_none(task, watches):
    """The joint of these watches, or None where it has too many watch states."""
    try:
        return joint(task, watches)
    except TooMany:
        return None
