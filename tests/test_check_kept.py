from bending import bent
from common import Case, chances, of_every_kind, other_class, random_task
from table_hands import small_task
from test_check_closed import triples_are_right, whole
from test_keepers import APART, BY_TURNS

from dimkeeper.check_kept import shows_kept
from dimkeeper.checks import is_name
from dimkeeper.errors import BadTask
from dimkeeper.keepers import Kept, first_kept
from dimkeeper.papers import Paper
from dimkeeper.tables import Table
from dimkeeper.tasks import Task

ENTRIES, STAYS = ((1, "l", "left", 1), (1, "r", "right", 1)), (("le", 1, "w0"), ("ri", 1, "w0"))


def kept_is_right(task, pages, entries, triples):
    """By the words of the document."""
    if not whole(pages) or not 1 <= pages <= 200 or not isinstance(entries, tuple) or not 1 <= len(entries) <= 2000:
        return False
    for entry in entries:
        if not isinstance(entry, tuple) or len(entry) != 4 or not whole(entry[0]) or not whole(entry[3]):
            return False
        if not 1 <= entry[0] <= pages or not 1 <= entry[3] <= pages or not is_name(entry[1]):
            return False
        if entry[2] not in task.world.deeds:
            return False
    if len({entry[:2] for entry in entries}) < len(entries):
        return False
    return triples_are_right(task, Table(pages, entries), triples)


class CheckKept(Case):

    def test_example(self):
        self.assertEqual([shows_kept(APART, Kept(1, ENTRIES, STAYS)), shows_kept(APART, Kept(2, ENTRIES[::-1], STAYS[::-1])),
                          shows_kept(APART, Kept(1, ENTRIES, STAYS[:1])), shows_kept(APART, ENTRIES)],
                         [True, True, False, False])

    def test_bent_papers(self):
        seen = {}
        for chance in chances(200):
            task = small_task(chance, 2, 3000, most_states=4, most_labels=2)
            paper = first_kept(task, 2)
            if paper is None:
                continue
            self.assertIs(shows_kept(task, paper), True)
            others = [*task.world.states, *task.watch.states, *task.blur.sights, *task.world.deeds, "odd", "broken", 0, 1, 2,
                      3, True, None, (), *paper.entries, *paper.triples]
            for _ in range(20):
                parts = bent(chance, paper.parts, others)
                if len(parts) == 3:
                    right = kept_is_right(task, *parts)
                    self.assertIs(shows_kept(task, Kept(*parts)), right, parts)
                    seen[right] = seen.get(right, 0) + 1
        self.assertGreater(min(seen.values()), 50)

    def test_more_than_is_needed(self):
        more = ENTRIES + ((2, "l", "left", 2), (1, "odd", "right", 2))
        self.assertIs(shows_kept(APART, Kept(2, more, STAYS)), True)
        self.assertIs(shows_kept(APART, Kept(2, more, STAYS + (("le", 2, "w0"),))), True)
        self.assertIs(shows_kept(APART, Kept(2, more, STAYS + (("ri", 2, "w0"),))), False)
        self.assertIs(shows_kept(APART, Kept(2, more, STAYS + STAYS[:1])), False)
        self.assertIs(shows_kept(APART, Kept(1, more, STAYS)), False)
        self.assertIs(shows_kept(APART, Kept(2, more + ((2, "l", "left", 1),), STAYS)), False)
        self.assertIs(shows_kept(APART, Kept(2, ENTRIES + ((1, "odd", "up", 1),), STAYS)), False)
        self.assertIs(shows_kept(APART, Kept(2, ENTRIES + ((1, "Odd", "left", 1),), STAYS)), False)

    def test_sizes(self):
        self.assertIs(shows_kept(APART, Kept(200, ENTRIES, STAYS)), True)
        self.assertIs(shows_kept(APART, Kept(201, ENTRIES, STAYS)), False)
        more = tuple((page, f"s{at}", "left", 1) for page in range(1, 101) for at in range(20))
        self.assertIs(shows_kept(APART, Kept(200, ENTRIES + more[:1998], STAYS)), True)
        self.assertIs(shows_kept(APART, Kept(200, ENTRIES + more[:1999], STAYS)), False)

    def test_any_values(self):
        class Lower(Kept):
            pass
        for value in of_every_kind() + [Lower(1, ENTRIES, STAYS), Paper("kept", 1, ENTRIES, STAYS),
                                        other_class("Kept", pages=1, entries=ENTRIES, triples=STAYS)]:
            self.assertIs(shows_kept(APART, value), False)
            if not isinstance(value, dict) or None not in value:
                for paper in (Kept(value, value, value), Kept(1, value, STAYS), Kept(1, [value], STAYS),
                              Kept(1, ENTRIES, value), Kept(1, ENTRIES, [value]), Kept(1, ENTRIES, STAYS + (value,))):
                    self.assertIs(shows_kept(APART, paper), False)
                if value != 1:
                    self.assertIs(shows_kept(APART, Kept(value, ENTRIES, STAYS)), False)
            if not isinstance(value, Task):
                self.fails(BadTask("task"), shows_kept, value, value)
        self.assertIs(shows_kept(BY_TURNS, Kept(1, ENTRIES, STAYS)), False)

    def test_papers_of_other_tasks(self):
        seen = set()
        for chance in chances(150):
            task = small_task(chance, 1, 3000)
            other = random_task(chance)
            paper = first_kept(task, 1)
            if paper is not None:
                right = kept_is_right(other, *paper.parts)
                self.assertIs(shows_kept(other, paper), right)
                seen.add(right)
        self.assertIn(False, seen)
