"""The search for a notebook that keeps the promise though it is smudged."""

from dimkeeper.delays import check_most
from dimkeeper.errors import TooMany
from dimkeeper.papers import Denial, Paper
from dimkeeper.search import MOST_SEARCHED
from dimkeeper.smudge_tries import SmudgeTries
from dimkeeper.smudges import check_smudges
from dimkeeper.tasks import check_pages, check_task


class Firm(Paper):
    """So many pages with these entries stay, by these cases."""

    def __init__(self, pages, entries, cases):
        super().__init__("firm", pages, entries, cases)
        self.pages = self.parts[0]
        self.entries = self.parts[1]
        self.cases = self.parts[2]


class Unfirm(Denial):
    """Lines which refuse so many pages."""

    def __init__(self, pages, lines):
        super().__init__("unfirm", pages, lines)
        self.pages = self.parts[0]
        self.lines = self.parts[1]


class Steady(Paper):
    """So many pages stay, and one page fewer does not."""

    def __init__(self, number, firm, unfirm):
        super().__init__("steady", number, firm, unfirm)
        self.number = self.parts[0]
        self.firm = self.parts[1]
        self.unfirm = self.parts[2]


def check_tried(task, k):
    """Raises TooMany if there are too many ways to give each cell of k pages an entry."""
    many = 1
    for _ in range(k * len(task.sights)):
        many = many * len(task.world.deeds) * k
        if many > MOST_SEARCHED:
            raise TooMany("choices", MOST_SEARCHED)


def keep_smudged(task, k, smudges):
    """A Firm, if some table of k pages stays, otherwise an Unfirm."""
    check_task(task)
    check_pages(k)
    check_smudges(smudges)
    check_tried(task, k)
    tries = SmudgeTries(task, k, smudges)
    lines = []
    is_over = False
    while not is_over:
        play, cell = tries.explored()
        if play is not None:
            lines.append((tries.given(), *play))
            is_over = not tries.goes_on()
        elif cell is None:
            return Firm(k, tries.given(), tries.all_cases())
        else:
            tries.ask(cell)
    return Unfirm(k, lines)


def least_smudged(task, smudges, most):
    """The Steady of the least number of pages up to most that stay, or the Unfirm of most."""
    check_task(task)
    check_smudges(smudges)
    check_most(most)
    unfirm = None
    for k in range(1, most + 1):
        paper = keep_smudged(task, k, smudges)
        if paper:
            return Steady(k, paper, unfirm)
        unfirm = paper
    return unfirm
