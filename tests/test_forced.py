from common import Case, chances, of_every_kind, random_task
from hands import held_by_hand, lost_by_hand, parts_by_hand, ranks_by_hand
from test_views import CLEAR, DRIFT, NEVER_X, ROOMS, random_view, ring_task, splits_by_hand

from dimkeeper.blurs import Blur
from dimkeeper.check_views import shows_held, shows_lost
from dimkeeper.errors import BadTask, BadView, TooMany
from dimkeeper.forced import Held, Lost, judge, rank_of
from dimkeeper.promises import again, anything, done_in_turn
from dimkeeper.tasks import Task
from dimkeeper.views import beginnings, views_met
from dimkeeper.watches import Watch
from dimkeeper.worlds import World


class Forced(Case):

    def test_example(self):
        lost = judge(ROOMS)
        self.assertTrue(lost == Lost(2, [(ROOMS.standing, 2, ["x", "x"]), ([("x", "w0")], 1, [("x", "w0"), ("x", "w0")])],
                                     [(ROOMS.standing, 1, "left")]))
        self.assertEqual(judge(CLEAR).entries,
                         ((1, "l", "left", 2), (1, "r", "right", 3), (2, "l", "left", 2), (3, "r", "right", 3)))
        self.assertEqual(judge(CLEAR).pages, ((("p", "w0"), ("q", "w0")), (("p", "w0"),), (("q", "w0"),)))

    def test_by_hand(self):
        seen = {}
        for chance in chances(400):
            task = random_task(chance)
            ranks = ranks_by_hand(task)
            paper = judge(task)
            self.gives(paper, judge, task)
            begun = [part for _, part in splits_by_hand(task, task.standing)]
            numbers = [ranks[view] for view in begun if ranks[view] is not None]
            for view in ranks:
                self.assertEqual(rank_of(task, view), ranks[view])
            if numbers:
                self.assertEqual(paper, Lost(*lost_by_hand(task, ranks)))
                self.assertIs(shows_lost(task, paper), True)
                self.assertIs(shows_held(task, paper), False)
            else:
                self.assertEqual(paper, Held(*held_by_hand(task, ranks)))
                self.assertIs(shows_held(task, paper), True)
                self.assertIs(shows_lost(task, paper), False)
            key = min(numbers) if numbers else None
            seen[key] = seen.get(key, 0) + 1
        self.assertTrue({None, 1, 2, 3} <= set(seen) and max(seen, key=lambda key: key or 0) > 3, seen)

    def test_rank_of_any_view(self):
        for chance in chances(120):
            task = random_task(chance)
            view = random_view(chance, task)
            if len(splits_by_hand(task, view)) > 1:
                self.fails(BadView("view"), rank_of, task, view)
            else:
                self.gives(ranks_by_hand(task, [view])[view], rank_of, task, [list(stand) for stand in view])

    def test_lost_at_one_two_and_later(self):
        still = World.read("a b ; o r ; o ; o , o")
        dark = Blur.alike(["r"])
        never = Task(still, dark, Watch.read("r ; a b ; w ; broken broken"))
        self.assertEqual(judge(never), Lost(1, [([("o", "w")], 1, [("o", "w"), ("o", "w")])], ()))
        soon = Task(still, dark, again(["r", "s"], ["a", "b"], ["s"], 4))
        paper = judge(soon)
        self.assertEqual((paper.number, [line[1] for line in paper.ranked], [line[1:] for line in paper.kept]),
                         (4, [4, 3, 2, 1], [(3, "a"), (2, "a"), (1, "a")]))
        turns = Task(still, dark, done_in_turn(["r"], ["a", "b"], ["b", "a"]))
        self.assertEqual(judge(turns), Held([[("o", "w0")], [("o", "w1")]], [(1, "dark", "b", 2), (2, "dark", "a", 1)]))
        hopeless = Task(still, dark, Watch.read("r ; a b ; x y ; y y / broken broken"))
        self.assertEqual(judge(hopeless).number, 2)

    def test_one_beginning_is_held(self):
        task = Task(DRIFT.begun("q", "x"), Blur.apart(DRIFT.labels), NEVER_X)
        self.assertEqual(judge(task), Lost(1, [([("x", "w0")], 1, [("x", "w0"), ("x", "w0")])], ()))
        self.assertEqual([rank_of(task, view) for _, view in beginnings(task)], [None, 1])

    def test_kept_views_of_lesser_rank_and_held_ones(self):
        # From a the world goes to a held state and to one that is lost at 3, behind which v and x are lost at 2 and 1.
        world = World.read("d ; a a h h u u v v x x ; a ; h u / h / v / x / x")
        labels = ["a", "h", "u", "v", "x"]
        task = Task(world, Blur.apart(labels), Watch(labels, ["d"], [("w", [["w"], ["w"], ["w"], ["w"], ["broken"]])]))
        paper = judge(task)
        self.assertEqual(paper.number, 4)
        self.assertEqual(paper.kept, (((("a", "w"),), 3, "d"), ((("h", "w"),), 3, "d"), ((("u", "w"),), 2, "d"),
                                      ((("v", "w"),), 1, "d")))
        self.assertEqual([line[2] for line in paper.ranked], [("u",), ("v",), ("x",), (("x", "w"),)])

    def test_the_deed_and_the_page_are_the_first(self):
        world = World.read("a b c ; o r ; o ; o , o , o")
        task = Task(world, Blur.alike(["r"]), Watch.read("r ; c b a ; w v ; v w broken / w v w"))
        self.assertEqual(judge(task), Held([[("o", "w")]], [(1, "dark", "b", 1)]))

    def test_many_views(self):
        self.assertEqual(len(judge(ring_task(125, 8)).pages), 1000)
        self.assertEqual(judge(ring_task(125, 8, True)).number, 8)
        self.fails(TooMany("views", 1000), judge, ring_task(143, 7))
        self.assertEqual(rank_of(ring_task(125, 8), [("s7", "k3")]), None)
        self.fails(TooMany("views", 1000), rank_of, ring_task(143, 7), [("s7", "k3")])
        # Of a view that is told only those views count that come about from it.
        task = Task(World.read("a ; o r p r ; o ; o / p"), Blur.alike(["r"]), anything(["r"], ["a"]))
        self.assertEqual(rank_of(task, [("p", "w0")]), None)

    def test_errors(self):
        for value in of_every_kind():
            if not isinstance(value, Task):
                self.fails(BadTask("task"), judge, value)
                self.fails(BadTask("task"), rank_of, value, value)
            self.fails(BadView("view"), rank_of, ROOMS, value)
            self.fails(BadView("view"), rank_of, ROOMS, [value])
        for view in ([("q", "w0"), ("p", "w0")], [("p", "w0"), ("x", "w0")], [("p", "broken")], [("p", "w0"), ("p", "w0")]):
            self.fails(BadView("view"), rank_of, ROOMS, view)
        self.fails(BadView("view"), rank_of, ring_task(143, 7), [("s7", "k3"), ("s7", "k2")])

    def test_facts(self):
        for chance in chances(100):
            task = random_task(chance)
            view = random_view(chance, task)
            sight, part = splits_by_hand(task, view)[0]
            for at in range(len(part)):
                within = part[:at] + part[at + 1:]
                if within:
                    whole, less = rank_of(task, part), rank_of(task, within)
                    self.assertTrue(less is None or whole is not None and less >= whole)

    def test_a_held_is_a_table_that_is_never_broken(self):
        held = 0
        for chance in chances(150):
            task = random_task(chance)
            paper = judge(task)
            if not paper:
                continue
            held += 1
            entries = {(page, sight): (deed, after) for page, sight, deed, after in paper.entries}
            met = [(state, 1, kept) for state, kept in task.standing]
            for state, page, kept in met:
                deed, after = entries[page, task.sight_of(state)]
                place = task.place_of((state, kept), deed)
                self.assertNotEqual(place, "broken")
                met += [triple for triple in [(one, after, place) for one in task.world.nexts(state, deed)] if triple not in met]
        self.assertGreater(held, 50)

    def test_kept_lines_keep_all_but_one_moment(self):
        for chance in chances(300):
            task = random_task(chance)
            paper = judge(task)
            if paper or paper.number == 1:
                continue
            told = {view: (moments, deed) for view, moments, deed in paper.kept}
            views = [part for _, part in splits_by_hand(task, task.standing)]
            for at in range(paper.number - 1):
                behind = []
                for view in views:
                    moments, deed = told[view]
                    self.assertGreaterEqual(moments, paper.number - 1 - at)
                    behind += parts_by_hand(task, view, deed)
                views = behind

    def test_all_that_is_told_apart_has_one_watch_state(self):
        for chance in chances(60):
            task = random_task(chance)
            blur = Blur.apart(task.world.labels)
            clear = Task(task.world, blur, task.watch)
            for view in views_met(clear):
                self.assertEqual(len({kept for _, kept in view}), 1)
            self.assertTrue(judge(clear) or not judge(Task(task.world, task.blur, task.watch)))
