from common import Case, chances, of_every_kind, random_task
from hands import parts_by_hand, ranks_by_hand
from table_hands import random_table
from test_stories import TASK, may_by_hand, random_story
from test_views import fault_by_hand, ring_task, splits_by_hand, subset_task

from dimkeeper.errors import (BadNumbers, BadStory, BadTable, BadTask, Breaks, NoDeed, NoEntry, NoSight, Nothing, NotNow, NoWay,
                              TooMany)
from dimkeeper.forced import judge
from dimkeeper.halls import Hall, replayed
from dimkeeper.keepers import first_kept
from dimkeeper.least import least_pages
from dimkeeper.plays import Play
from dimkeeper.promises import never
from dimkeeper.stories import Story
from dimkeeper.tables import Table
from dimkeeper.tasks import Task


def state_of(hall):
    """What can be asked of a hall without changing it."""
    return hall.task, hall.moment, hall.is_seen, hall.pairs, hall.story, hall.fate


def view_by_hand(hall):
    """The views behind the sights that may be seen now, as stands; the one view itself if the sight was seen."""
    return [part for _, part in splits_by_hand(hall.task, hall.pairs)]


class Halls(Case):

    def test_example(self):
        hall = replayed(TASK, Story.read("story see lr"))
        self.assertEqual((hall.pairs, hall.rank(), hall.safe_deeds(), hall.do("left"), hall.rank(), hall.see("off"), hall.fate,
                          hall.do("right"), hall.fate, hall.moment),
                         ((("l", "w0"), ("r", "w0")), 2, (), (("l", "w0"), ("x", "w0")), 1, (("x", "w0"),), "kept",
                          (("x", "broken"),), "broken", 2))

    def test_the_begin(self):
        hall = Hall(TASK)
        self.assertEqual(state_of(hall), (TASK, 0, False, TASK.standing, Story([]), "kept"))
        self.fails(Nothing(), hall.undo)
        self.fails(NotNow("deed"), hall.do, "left")
        self.assertEqual(state_of(hall), (TASK, 0, False, TASK.standing, Story([]), "kept"))
        self.assertEqual(Hall(task=TASK), hall)

    def test_by_hand(self):
        seen = set()
        for chance in chances(300):
            task = random_task(chance, most_states=4)
            steps = random_story(chance, task)
            hall, past = Hall(task), []
            for at, (kind, name) in enumerate(steps):
                past.append(state_of(hall))
                pairs = hall.see(name) if kind == "see" else hall.do(name)
                self.assertEqual(pairs, may_by_hand(task, steps[:at + 1]))
                self.assertEqual((hall.pairs, hall.moment, hall.is_seen), (pairs, (at + 1) // 2, at % 2 == 0))
                self.assertEqual(hall.story, Story(steps[:at + 1]))
                broken = [kept == "broken" for _, kept in pairs]
                self.assertEqual(hall.fate, "broken" if all(broken) else "open" if any(broken) else "kept")
                seen.add(hall.fate)
            self.assertEqual(hall, replayed(task, Story(steps)))
            self.check_ranks(hall, seen)
            # Taken back, step by step, it stands where it stood.
            for kind, name in steps[::-1]:
                self.assertEqual(hall.undo(), (kind, name))
                self.assertEqual(state_of(hall), past.pop())
            self.assertEqual(hall, Hall(task))
        self.assertTrue({"kept", "open", "broken", None, 0, 1, 2, "safe", "none safe"} <= seen, seen)

    def check_ranks(self, hall, seen):
        """Ranks and safe deeds by the ranks of all views."""
        task, is_broken = hall.task, hall.fate != "kept"
        if is_broken:
            self.assertEqual(hall.rank(), 0)
        else:
            views = view_by_hand(hall)
            ranks = ranks_by_hand(task, views)
            told = [ranks[view] for view in views if ranks[view] is not None]
            self.gives(min(told) if told else None, hall.rank)
        seen.add(hall.rank())
        if not hall.is_seen:
            self.fails(NotNow("deed"), hall.safe_deeds)
            return
        safe = []
        for deed in task.world.deeds if not is_broken else ():
            parts = parts_by_hand(task, hall.pairs, deed)
            if fault_by_hand(task, hall.pairs, deed) is None and all(ranks_by_hand(task, parts)[part] is None for part in parts):
                safe.append(deed)
        self.gives(tuple(safe), hall.safe_deeds)
        seen.add("safe" if safe else "none safe")

    def test_least(self):
        seen = set()
        for chance in chances(120):
            task = random_task(chance, most_states=3, most_deeds=2, most_labels=2)
            steps = random_story(chance, task, 4)
            hall = replayed(task, Story(steps))
            broken = [pair for pair in hall.pairs if pair[1] == "broken"]
            ahead = state_of(hall)
            if broken:
                self.fails(Breaks(broken[0][0], "broken"), hall.least)
                seen.add("broken")
            else:
                told = Task(task.world, task.blur, task.watch, hall.pairs)
                self.assertEqual(hall.least(), least_pages(told))
                seen.add(hall.least().word)
            self.assertEqual(state_of(hall), ahead)
        self.assertEqual(seen, {"broken", "lost", "least"})

    def test_tables_are_followed(self):
        kinds = set()
        for chance in chances(150):
            task = random_task(chance, most_states=4)
            table = random_table(chance, task, 3, 0.1)
            hall, page = Hall(task), 1
            state, kept = chance.choice(task.standing)
            states = [state]
            for _ in range(5):
                hall.see(task.sight_of(states[-1]))
                ahead = state_of(hall)
                cell = (page, task.sight_of(states[-1]))
                if cell not in table:
                    self.fails(NoEntry(*cell), hall.told, table, page)
                    self.fails(NoEntry(*cell), hall.followed, table, page)
                    self.assertEqual(state_of(hall), ahead)
                    kinds.add("lacks")
                    break
                entry = table.entry_of(*cell)
                self.gives(entry, hall.told, table, page)
                self.assertEqual(state_of(hall), ahead)
                if chance.random() < 0.5:
                    self.assertEqual(hall.followed(table, page), entry[1])
                else:
                    hall.do(entry[0])
                page = entry[1]
                states.append(chance.choice(task.world.nexts(states[-1], entry[0])))
            play = Play(task, table, states, kept)
            self.assertEqual(play.pages[-1], page)
            self.assertIn((states[-1], ([kept] + list(play.places))[len(hall.story) // 2]), hall.pairs)
            kinds.add("followed")
        self.assertEqual(kinds, {"lacks", "followed"})

    def test_gone_on_otherwise(self):
        hall = replayed(TASK, Story.read("story see lr / do left / see off / do left"))
        told, story = hall.pairs, hall.story
        self.assertEqual([hall.undo(), hall.undo()], [("do", "left"), ("see", "off")])
        self.assertEqual(hall.see("lr"), (("l", "w0"),))
        self.assertEqual(hall.do("left"), (("l", "w0"),))
        self.assertEqual((hall.rank(), hall.fate, hall.moment), (None, "kept", 2))
        # What was given earlier does not change.
        self.assertEqual((told, story), ((("x", "broken"),), Story.read("story see lr / do left / see off / do left")))
        hall.see("lr")
        self.assertEqual((hall.safe_deeds(), hall.least().number), (("left",), 1))

    def test_equality(self):
        one, other = Hall(TASK), Hall(TASK)
        one.see("lr")
        self.same([one, other, Hall(TASK.changed(standing=[("l", "w0")])), replayed(TASK, Story.read("story see lr / do left"))])
        other.see("lr")
        self.assertEqual(one, other)
        one.do("left")
        one.undo()
        self.assertEqual(one, other)

    def test_errors(self):
        table = Table(2, [(1, "lr", "left", 2), (2, "lr", "up", 1)])
        for value in of_every_kind():
            self.fails(BadTask("task"), Hall, value)
            self.fails(BadTask("task"), replayed, value, value)
            self.fails(BadStory("story"), replayed, TASK, value)
            hall = Hall(TASK)
            self.fails(NoSight(value), hall.see, value)
            for call in (hall.do, lambda deed: hall.told(deed, deed), lambda deed: hall.followed(deed, deed)):
                self.fails(NotNow("deed"), call, value)
            self.assertEqual(hall, Hall(TASK))
            hall.see("lr")
            ahead = state_of(hall)
            self.fails(NotNow("sight"), hall.see, value)
            self.fails(NoDeed(value), hall.do, value)
            for call in (hall.told, hall.followed):
                self.fails(BadTable("table"), call, value, value)
                if value is True or type(value) is not int or value < 1:
                    self.fails(BadNumbers("page"), call, table, value)
                self.fails(NoEntry(3, "lr"), call, table, 3)
                self.fails(NoEntry(10 ** 30, "lr"), call, table, 10 ** 30)
            self.assertEqual(hall.told(table, 2), ("up", 1))
            self.fails(NoDeed("up"), hall.followed, table, 2)
            self.assertEqual(state_of(hall), ahead)
        hall = Hall(TASK)
        self.fails(NoWay("off"), hall.see, "off")
        for steps, error in [([("see", "x")], NoSight("x")), ([("see", "off")], NoWay("off")), ([("see", "lr"), ("do", "up")], NoDeed("up"))]:
            self.fails(error, replayed, TASK, Story(steps))

    def test_many_views(self):
        # 1,000 views may come about, 1,001 not; a promise that may be broken is not looked into.
        for task, many in ((ring_task(125, 8), 1000), (ring_task(143, 7), 1001), (ring_task(125, 8, True), 1000)):
            hall = Hall(task)
            sight = task.sight_of(task.standing[0][0])
            if many == 1001:
                self.fails(TooMany("views", 1000), judge, task)
                self.fails(TooMany("views", 1000), hall.rank)
                self.fails(TooMany("views", 1000), hall.least)
                hall.see(sight)
                self.fails(TooMany("views", 1000), hall.rank)
                self.fails(TooMany("views", 1000), hall.safe_deeds)
            else:
                verdict = judge(task)
                self.assertEqual(hall.rank(), None if verdict else verdict.number)
                hall.see(sight)
                self.assertEqual(hall.rank(), None if verdict else verdict.number)
                self.assertEqual(len(hall.safe_deeds()) > 0, bool(verdict))
        # Where the promise may be broken already nothing is looked into.
        wide = subset_task(10)
        hall = Hall(wide)
        self.fails(TooMany("views", 1000), hall.rank)
        broken = Hall(wide.changed(watch=never(["l"], wide.world.deeds, ["l"])))
        broken.see("l")
        broken.do("turn")
        self.assertEqual((broken.rank(), broken.fate), (0, "broken"))
        broken.see("l")
        self.assertEqual((broken.rank(), broken.safe_deeds()), (0, ()))

    def test_a_story_replayed_undone_and_done_again(self):
        for chance in chances(60):
            task = random_task(chance)
            steps = random_story(chance, task, 8)
            hall = replayed(task, Story(steps))
            many = chance.randint(0, len(steps))
            taken = [hall.undo() for _ in range(many)]
            self.assertEqual(hall, replayed(task, Story(steps[:len(steps) - many])))
            for kind, name in taken[::-1]:
                self.assertEqual(hall.see(name) if kind == "see" else hall.do(name), hall.pairs)
            self.assertEqual(hall, replayed(task, Story(steps)))
            if first_kept(task, 1) is not None:
                self.assertIsNone(Hall(task).rank())
