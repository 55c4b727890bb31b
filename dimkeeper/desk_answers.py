"""What a desk answers to lines that keep and do nothing."""

from dimkeeper.among import rows_among
from dimkeeper.closed import holds
from dimkeeper.delays import least_delay
from dimkeeper.forced import judge
from dimkeeper.keepers import count_kept
from dimkeeper.least import least_pages
from dimkeeper.moments import sure_moments
from dimkeeper.tasks import Task


def answer_to(word, parts):
    """The answer to a line that asks for kept values alone."""
    if word == "show":
        return shown_text(parts[0])
    if word == "judge":
        return judged_text(judge(parts[0]))
    if word == "least":
        return least_text(least_pages(parts[0]))
    if word == "count":
        return str(count_kept(parts[0], parts[1]))
    if word == "holds":
        return holds_text(holds(parts[0], parts[1]))
    if word == "alike":
        return alike_text(parts[0], parts[1])
    if word == "delay":
        paper = least_delay(parts[0], parts[1], parts[2])
        return str(paper.number) if paper else "never"
    paper = sure_moments(parts[0], parts[1])
    return "always" if paper.word == "kept" else str(paper.number)


def shown_text(value):
    """The text of a kept value; a task has none."""
    return "task" if isinstance(value, Task) else str(value)


def judged_text(paper):
    """What a Held or a Lost tells."""
    return f"held {len(paper.pages)}" if paper else f"lost {paper.number}"


def least_text(paper):
    """What a Least or a Lost tells."""
    return f"least {paper.number}" if paper else f"lost {paper.number}"


def holds_text(paper):
    """What a Holds, a Lacks or a Broken tells."""
    if paper:
        return f"holds {len(paper.triples)}"
    if paper.word == "lacks":
        return f"lacks {paper.page} {paper.sight}"
    return f"broken {len(paper.states) - 1}"


def alike_text(one, other):
    """The parting row of one of two worlds against the other, or that they are alike."""
    for word, first, second in (("first", one, other), ("other", other, one)):
        paper = rows_among(first, second)
        if not paper:
            return " ".join([word, *paper.row])
    return "alike"


def rank_text(rank):
    """What the rank of a hall tells."""
    if rank == 0:
        return "broken"
    return "held" if rank is None else f"lost {rank}"
