from bending import bent
from common import Case, chances, of_every_kind, other_class, random_task
from hands import parts_by_hand
from test_views import CLEAR, DIM, DRIFT, NEVER_X, ROOMS, next_by_hand, splits_by_hand

from dimkeeper.blurs import Blur
from dimkeeper.check_views import shows_held, shows_lost
from dimkeeper.errors import BadTask
from dimkeeper.forced import Held, Lost, judge
from dimkeeper.papers import Denial, Paper
from dimkeeper.tasks import Task
from dimkeeper.watches import Watch
from dimkeeper.worlds import World


def is_view(task, value):
    stands = [(state, kept) for state in task.world for kept in task.watch]
    return (isinstance(value, tuple) and value != () and all(isinstance(stand, tuple) for stand in value)
            and list(value) == [stand for stand in stands if stand in value])


def held_is_right(task, value):
    """By the words of the document."""
    pages, entries = value.pages, value.entries
    if not isinstance(pages, tuple) or not pages or not all(is_view(task, page) for page in pages):
        return False
    if not set(task.standing) <= set(pages[0]) or not isinstance(entries, tuple):
        return False
    left = list(entries)
    for at, page in enumerate(pages):
        for sight, part in splits_by_hand(task, page):
            mine = [entry for entry in left if isinstance(entry, tuple) and len(entry) == 4
                    and type(entry[0]) is int and entry[0] == at + 1 and entry[1] == sight]
            if len(mine) != 1:
                return False
            left.remove(mine[0])
            deed, after = mine[0][2:]
            if deed not in task.world.deeds or type(after) is not int or not 1 <= after <= len(pages):
                return False
            if parts_by_hand(task, part, deed) is None or not set(next_by_hand(task, part, deed)) <= set(pages[after - 1]):
                return False
    return not left


def is_from_one(value):
    return type(value) is int and value >= 1


def lost_is_right(task, value):
    """By the words of the document."""
    number, ranked, kept = value.parts
    if not is_from_one(number) or not isinstance(ranked, tuple) or not isinstance(kept, tuple) or not ranked:
        return False
    for lines in (ranked, kept):
        for line in lines:
            if not isinstance(line, tuple) or len(line) != 3 or not is_view(task, line[0]) or not is_from_one(line[1]):
                return False
            if len(splits_by_hand(task, line[0])) != 1:
                return False
        if len({line[0] for line in lines}) != len(lines):
            return False
    begun = [part for _, part in splits_by_hand(task, task.standing)]
    if not any(set(ranked[0][0]) <= set(view) for view in begun) or ranked[0][1] > number:
        return False
    for view, rank, replies in ranked:
        if not isinstance(replies, tuple) or len(replies) != len(task.world.deeds):
            return False
        for deed, reply in zip(task.world.deeds, replies):
            if isinstance(reply, tuple) and reply in view and task.place_of(reply, deed) == "broken":
                continue
            if parts_by_hand(task, view, deed) is None:
                return False
            shown = dict(splits_by_hand(task, next_by_hand(task, view, deed)))
            if not isinstance(reply, str) or reply not in shown:
                return False
            if not any(line[1] < rank and set(line[0]) <= set(shown[reply]) for line in ranked):
                return False
    moments = {line[0]: line[1] for line in kept}
    if number > 1 and any(moments.get(view, 0) < number - 1 for view in begun):
        return False
    for view, many, deed in kept:
        if deed not in task.world.deeds or parts_by_hand(task, view, deed) is None:
            return False
        if many >= 2 and any(moments.get(part, 0) < many - 1 for part in parts_by_hand(task, view, deed)):
            return False
    return True


class CheckViews(Case):

    def test_bent_papers(self):
        seen = {}
        for chance in chances(250):
            task = random_task(chance, most_states=4)
            paper = judge(task)
            others = list(task.world.states) + list(task.watch.states) + list(task.world.deeds) + list(task.blur.sights)
            others += [(state, kept) for state in task.world for kept in task.watch] + [None, True, 0, 1, 2, 3, (), 1.0, "x"]
            for _ in range(25):
                parts = bent(chance, paper.parts, others)
                if len(parts) != len(paper.parts):
                    continue
                value = Held(*parts) if paper else Lost(*parts)
                told = held_is_right(task, value) if paper else lost_is_right(task, value)
                self.assertIs((shows_held if paper else shows_lost)(task, value), told, (value.parts, task.standing))
                key = (paper.word, told)
                seen[key] = seen.get(key, 0) + 1
        self.assertTrue(len(seen) == 4 and min(seen.values()) > 50, seen)

    def test_held(self):
        paper = judge(CLEAR)
        self.assertIs(shows_held(CLEAR, paper), True)
        self.assertIs(shows_held(CLEAR, Held(paper.pages, paper.entries[::-1])), True)
        self.assertIs(shows_held(ROOMS, paper), False)
        wide = [CLEAR.standing]
        good = [(1, "l", "left", 1), (1, "r", "right", 1)]
        for entries, told in [(good, True), (good[:1], False), (good + good[:1], False), (good + [(1, "x", "left", 1)], False),
                              (good + [(2, "l", "left", 1)], False), ([(1, "l", "right", 1), good[1]], False),
                              ([(1, "l", "left", 2), good[1]], False), ([(True, "l", "left", 1), good[1]], False),
                              ([(1, "l", "left", True), good[1]], False), ([(1, "l", "left", 1.0), good[1]], False),
                              ([(1, "l", "left"), good[1]], False), ([(1, "l", "left", 0), good[1]], False), ([], False),
                              ([good[0], (1, ["r"], "right", 1)], False), ([good[0], (1, "r", ["right"], 1)], False)]:
            self.assertIs(shows_held(CLEAR, Held(wide, entries)), told, entries)
        self.assertIs(shows_held(CLEAR, Held([CLEAR.standing] * 2, good)), False)
        self.assertIs(shows_held(CLEAR, Held([], [])), False)
        self.assertIs(shows_held(CLEAR, Held([CLEAR.standing[::-1]], good)), False)

    def test_more_than_two_hundred_pages(self):
        entries = [entry for page in range(1, 202) for entry in ((page, "l", "left", 201), (page, "r", "right", page))]
        self.assertIs(shows_held(CLEAR, Held([CLEAR.standing] * 201, entries)), True)

    def test_lost(self):
        paper = judge(ROOMS)
        first, second = paper.ranked
        kept = paper.kept
        self.assertIs(shows_lost(ROOMS, paper), True)
        for number, ranked, told_kept, told in [
                (3, paper.ranked, (), False), (3, paper.ranked, kept, False), (1, paper.ranked, kept, False),
                (2, paper.ranked[::-1], kept, False), (2, paper.ranked[:1], kept, False), (2, paper.ranked, (), False),
                (2, ((first[0], 7, first[2]), second), kept, False), (7, ((first[0], 7, first[2]), second), kept, False),
                (2, (first, (second[0], 2, second[2])), kept, False), (2, ((first[0], True, first[2]), second), kept, False),
                (True, paper.ranked, kept, False), (2.0, paper.ranked, kept, False), (2, (first, second, second), kept, False),
                (2, (first, second, (ROOMS.standing[:1], 3, ("x", "x"))), kept, False),
                (2, (first, second, (ROOMS.standing[:1], 3, ("u", "x"))), kept, False),
                (2, (first, second, (ROOMS.standing[1:], 3, ("x", "u"))), kept, False),
                (2, paper.ranked, kept + ((ROOMS.standing[:1], 1, "left"),), True),
                (2, paper.ranked, kept + ((ROOMS.standing[:1], 2, "left"),), True),
                (2, paper.ranked, kept + ((ROOMS.standing[:1], 2, "left"), (ROOMS.standing[:1], 1, "left")), False),
                (2, paper.ranked, kept + (((("x", "w0"),), 1, "left"),), False),
                (2, paper.ranked, ((ROOMS.standing, 1, "right"),), True), (2, paper.ranked, ((ROOMS.standing, 2, "left"),), False),
                (2, paper.ranked, ((ROOMS.standing, 0, "left"),), False), (2, paper.ranked, ((ROOMS.standing, True, "left"),), False),
                (2, paper.ranked, ((ROOMS.standing, 1, "up"),), False), (2, paper.ranked, kept + kept, False)]:
            self.assertIs(shows_lost(ROOMS, Lost(number, ranked, told_kept)), told, (number, ranked, told_kept))

    def test_a_number_above_the_rank(self):
        task = Task(DRIFT.begun("x"), DIM, NEVER_X)
        line = ((("x", "w0"),), 1, (("x", "w0"), ("x", "w0")))
        self.assertIs(shows_lost(task, Lost(1, [line], [])), True)
        self.assertIs(shows_lost(task, Lost(2, [line], [])), False)
        self.assertIs(shows_lost(task, Lost(1, [(line[0], 2, line[2])], [])), False)
        # From p the deed left leads to p again, and so to a line of as many moments; from q it leads to x, and to none.
        self.assertIs(shows_lost(task, Lost(1, [line], [((("p", "w0"),), 9, "left")])), True)
        self.assertIs(shows_lost(task, Lost(1, [line], [((("q", "w0"),), 1, "left")])), True)
        self.assertIs(shows_lost(task, Lost(1, [line], [((("q", "w0"),), 2, "left")])), False)
        self.assertIs(shows_lost(task, Lost(1, [line], [((("p", "w0"),), 1, "right")])), True)

    def test_views_within_a_split(self):
        # What lies within a beginning, or a split, is enough.
        world = World.read("a ; s l t l u m v m ; s t ; u v / u / u / v")
        task = Task(world, Blur.apart(["l", "m"]), Watch.read("l m ; a ; w ; w , broken"))
        low = [((("s", "w"),), 2, ("m",)), ((("u", "w"),), 1, (("u", "w"),))]
        kept = [((("s", "w"), ("t", "w")), 1, "a")]
        self.assertIs(shows_lost(task, Lost(2, low, kept)), True)
        self.assertIs(shows_lost(task, Lost(2, [low[0], ((("v", "w"),), 1, (("v", "w"),))], kept)), True)
        self.assertIs(shows_lost(task, Lost(2, [((("t", "w"),), 2, ("m",)), ((("v", "w"),), 1, (("v", "w"),))], kept)), False)
        self.assertIs(shows_lost(task, Lost(2, low, [((("s", "w"),), 1, "a")])), False)

    def test_any_values(self):
        held, lost = judge(CLEAR), judge(ROOMS)

        class LowHeld(Held):
            pass

        class LowLost(Lost):
            pass
        values = [held.parts, lost.parts, Paper("held", *held.parts), Denial("lost", *lost.parts), LowHeld(*held.parts),
                  LowLost(*lost.parts), (held,), [lost], other_class("Held", pages=held.pages, entries=held.entries),
                  other_class("Lost", number=lost.number, ranked=lost.ranked, kept=lost.kept)]
        for value in of_every_kind() + values:
            for task in (CLEAR, ROOMS):
                self.assertIs(shows_held(task, value), False)
                self.assertIs(shows_lost(task, value), False)
        for value in of_every_kind():
            if isinstance(value, dict) and None in value:
                continue
            for paper in (Held(value, value), Held([value], [value]), Held(held.pages, [value]), Held(held.pages, value),
                          Held([[value]], ()), Held([CLEAR.standing], [(1, "l", "left", value)])):
                self.assertIs(shows_held(CLEAR, paper), False)
            for paper in (Lost(value, value, value), Lost(2, value, lost.kept), Lost(2, [value], lost.kept),
                          Lost(2, lost.ranked, value), Lost(2, lost.ranked, [value]),
                          Lost(2, [(ROOMS.standing, 2, [value, value])], lost.kept), Lost(2, [(value, value, value)], lost.kept),
                          Lost(2, lost.ranked, [(value, value, value)]), Lost(2, lost.ranked, [(ROOMS.standing, 1, value)])):
                self.assertIs(shows_lost(ROOMS, paper), False)

    def test_errors(self):
        for value in of_every_kind():
            if not isinstance(value, Task):
                self.fails(BadTask("task"), shows_held, value, value)
                self.fails(BadTask("task"), shows_lost, value, value)
