"""Pages traded against what is seen."""

from dimkeeper.blurs import MOST_SHARED_OUT, Blur, blurs_of, check_blur, is_finer
from dimkeeper.errors import TooMany, Unlike
from dimkeeper.keepers import first_kept
from dimkeeper.papers import Paper
from dimkeeper.refuse import refused
from dimkeeper.search import check_searched
from dimkeeper.tasks import check_pages, check_task


class SightFront(Paper):
    """The coarsest enough blurs, each with its Kept, and the finest short ones, each with its Refusal."""

    def __init__(self, enough, short):
        super().__init__("sightfront", enough, short)
        self.enough = self.parts[0]
        self.short = self.parts[1]


def seen_through(task, blur):
    """The task with another blur, the standing as it is."""
    return task.changed(blur=blur, standing=task.standing)


def is_enough(task, k, blur):
    """Whether some table of at most k pages holds the task with this blur."""
    check_task(task)
    check_pages(k)
    check_blur(blur, "blur")
    if sorted(blur.labels) != sorted(task.world.labels):
        raise Unlike("labels")
    return first_kept(seen_through(task, blur), k) is not None


def sight_front(task, k):
    """The SightFront for k pages."""
    check_task(task)
    check_pages(k)
    if len(task.world.labels) > MOST_SHARED_OUT:
        raise TooMany("labels", MOST_SHARED_OUT)
    check_searched(seen_through(task, Blur.apart(task.world.labels)), k)
    enough, short = [], []
    for blur in blurs_of(task.world.labels):
        # Coarser ones come first, and what is finer than an enough one is enough.
        if not any([is_finer(blur, coarse) for coarse, paper in enough]):
            paper = first_kept(seen_through(task, blur), k)
            if paper is None:
                short.append(blur)
            else:
                enough.append((blur, paper))
    finest = [blur for blur in short if not any([other != blur and is_finer(other, blur) for other in short])]
    return SightFront(enough, [(blur, refused(seen_through(task, blur), k)) for blur in finest])
