from common import Case, chances, names, of_every_kind, random_task

from dimkeeper.blurs import Blur
from dimkeeper.errors import BadLog, BadTask, BadView, Breaks, NoDeed, NoSight, NoWay, TooMany
from dimkeeper.promises import anything, never
from dimkeeper.tasks import Task
from dimkeeper.views import beginnings, fault_of, next_view, splits_of, view_after, views_met
from dimkeeper.watches import Watch
from dimkeeper.worlds import World

DRIFT = World.read("left right ; p l q r x x ; p q ; p , x / x , q / x , x")
DIM = Blur({"r": "u", "l": "u", "x": "x"})
NEVER_X = never(DRIFT.labels, DRIFT.deeds, ["x"])
ROOMS, CLEAR = Task(DRIFT, DIM, NEVER_X), Task(DRIFT, Blur.apart(DRIFT.labels), NEVER_X)


def in_order(task, stands):
    return tuple((state, kept) for state in task.world for kept in task.watch if (state, kept) in stands)


def splits_by_hand(task, view):
    shown = {}
    for stand in view:
        shown.setdefault(task.sight_of(stand[0]), []).append(stand)
    return tuple((sight, tuple(shown[sight])) for sight in sorted(shown))


def fault_by_hand(task, view, deed):
    return next((stand for stand in view if task.place_of(stand, deed) == "broken"), None)


def next_by_hand(task, view, deed):
    return in_order(task, {(state, task.place_of(stand, deed)) for stand in view
                           for state in task.world.nexts(stand[0], deed)})


def met_by_hand(task):
    met = [view for _, view in splits_by_hand(task, task.standing)]
    for view in met:
        for deed in task.world.deeds:
            if fault_by_hand(task, view, deed) is None:
                for _, part in splits_by_hand(task, next_by_hand(task, view, deed)):
                    if part not in met:
                        met.append(part)
    return met


def random_view(chance, task):
    stands = [(state, kept) for state in task.world for kept in task.watch]
    return in_order(task, chance.sample(stands, chance.randint(1, min(5, len(stands)))))


def subset_task(many):
    """A task in which each set of so many states, but the empty one, is a view: 2 ** many - 1 views."""
    states = names("s", many)
    turn = [[states[(at + 1) % many]] for at in range(many)]
    grow = [[states[0], states[1]]] + [[state] for state in states[1:]]
    drop = [[states[1]]] + [[state] for state in states[1:]]
    rows = [(state, "l", [turn[at], grow[at], drop[at]]) for at, state in enumerate(states)]
    world = World(["turn", "grow", "drop"], rows, ["s0"])
    return Task(world, Blur.apart(["l"]), anything(["l"], world.deeds))


def ring_task(size, turns, breaks=False):
    """A ring of states, and a watch that counts: a view for each pair of both, if the sizes have no common part."""
    states, kept = names("s", size), names("k", turns)
    world = World(["d"], [(state, "l", [[after]]) for state, after in zip(states, states[1:] + states[:1])], ["s0"])
    rows = [(one, [[other]]) for one, other in zip(kept, kept[1:] + kept[:1])]
    if breaks:
        rows[-1] = (kept[-1], [["broken"]])
    return Task(world, Blur.apart(["l"]), Watch(["l"], ["d"], rows))


class Views(Case):

    def test_example(self):
        self.assertEqual([splits_of(ROOMS, ROOMS.standing), next_view(ROOMS, ROOMS.standing, "left")],
                         [(("u", (("p", "w0"), ("q", "w0"))),), (("p", "w0"), ("x", "w0"))])
        self.assertEqual([view_after(ROOMS, ["u", "left", "u"]), fault_of(ROOMS, [("x", "w0")], "left")],
                         [(("p", "w0"),), ("x", "w0")])

    def test_by_hand(self):
        for chance in chances(120):
            task = random_task(chance)
            self.gives(splits_by_hand(task, task.standing), beginnings, task)
            view = random_view(chance, task)
            as_lists = [list(stand) for stand in view]
            self.gives(splits_by_hand(task, view), splits_of, task, view)
            self.gives(splits_by_hand(task, view), splits_of, task, as_lists)
            for deed in task.world.deeds:
                fault = fault_by_hand(task, view, deed)
                self.gives(fault, fault_of, task, view, deed)
                if fault is None:
                    self.gives(next_by_hand(task, view, deed), next_view, task, as_lists, deed)
                else:
                    self.fails(Breaks(*fault), next_view, task, view, deed)
            self.assertEqual(list(views_met(task)), met_by_hand(task))

    def test_logs_by_hand(self):
        for chance in chances(80):
            task = random_task(chance)
            view, log = task.standing, []
            self.gives(view, view_after, task, [])
            for at in range(8):
                if at % 2 == 0:
                    for sight in task.blur.sights:
                        if sight not in dict(splits_by_hand(task, view)):
                            self.fails(NoWay(sight), view_after, task, log + [sight, None])
                    item, view = chance.choice(splits_by_hand(task, view))
                else:
                    item = chance.choice(task.world.deeds)
                    fault = fault_by_hand(task, view, item)
                    if fault is not None:
                        self.fails(Breaks(*fault), view_after, task, log + [item, None])
                        break
                    view = next_by_hand(task, view, item)
                log.append(item)
                self.gives(view, view_after, task, log)
                self.gives(view, view_after, task, tuple(log))

    def test_beginnings(self):
        self.assertEqual(beginnings(CLEAR), (("l", (("p", "w0"),)), ("r", (("q", "w0"),))))
        self.assertEqual(beginnings(ROOMS), (("u", (("p", "w0"), ("q", "w0"))),))

    def test_sights_called_like_deeds(self):
        blur = Blur({"l": "right", "r": "left", "x": "left"})
        task = Task(DRIFT, blur, NEVER_X)
        self.assertEqual(beginnings(task), (("left", (("q", "w0"),)), ("right", (("p", "w0"),))))
        self.assertEqual(view_after(task, ["left", "right", "left"]), (("q", "w0"),))
        self.assertEqual(view_after(task, ["right", "right"]), (("x", "w0"),))
        self.fails(NoWay("left"), view_after, task, ["right", "left", "left"])

    def test_watch_deeds_in_another_order(self):
        watch = Watch.read("x r l ; right left ; w v ; broken broken , v w , v w / broken broken , w v , w v")
        task = Task(DRIFT, DIM, watch)
        self.assertEqual(next_view(task, [("p", "w"), ("q", "v")], "left"), (("p", "w"), ("x", "v")))
        self.assertEqual(next_view(task, [("p", "w"), ("q", "v")], "right"), (("q", "w"), ("x", "v")))
        self.assertEqual(list(views_met(task))[:3], [(("p", "w"), ("q", "w")), (("p", "w"),), (("x", "w"),)])

    def test_bad_views(self):
        for call in (splits_of, lambda *told: fault_of(*told, "up"), lambda *told: next_view(*told, "up")):
            for value in of_every_kind():
                self.fails(BadView("view"), call, ROOMS, value)
                self.fails(BadView("view"), call, ROOMS, [("p", "w0"), value])
                self.fails(BadView("view"), call, ROOMS, [("p", value)])
                if not isinstance(value, Task):
                    self.fails(BadTask("task"), call, value, value)
            for view in ([("q", "w0"), ("p", "w0")], [("p", "w0"), ("p", "w0")], [("p", "w1")], [("p", "broken")],
                         [("z", "w0")], ["pw"], ("p", "w0"), [("p", "w0", "w0")], {"p": "w0"}):
                self.fails(BadView("view"), call, ROOMS, view)
        for call in (fault_of, next_view):
            for value in of_every_kind() + ["up", "u"]:
                self.fails(NoDeed(value), call, ROOMS, [("x", "w0")], value)

    def test_bad_logs(self):
        for value in of_every_kind():
            if not isinstance(value, (list, tuple)):
                self.fails(BadLog("log"), view_after, ROOMS, value)
            if value != "x":
                self.fails(NoSight(value), view_after, ROOMS, [value])
                self.fails(NoSight(value), view_after, ROOMS, ["u", "left", value, None])
            self.fails(NoDeed(value), view_after, ROOMS, ["u", value])
            self.fails(NoDeed(value), view_after, ROOMS, ("u", "left", "x", value, None))
            if not isinstance(value, Task):
                self.fails(BadTask("task"), view_after, value, value)
                self.fails(BadTask("task"), beginnings, value)
                self.fails(BadTask("task"), lambda told: list(views_met(told)), value)
        self.fails(NoWay("x"), view_after, ROOMS, ["x", "up"])
        self.fails(NoSight("l"), view_after, ROOMS, ["l"])
        self.fails(Breaks("x", "w0"), view_after, ROOMS, ["u", "left", "x", "left", "z"])

    def test_many_views(self):
        self.assertEqual(len(list(views_met(subset_task(4)))), 15)
        self.assertEqual(len(list(views_met(subset_task(9)))), 511)
        self.fails(TooMany("views", 1000), lambda: list(views_met(subset_task(10))))
        self.assertEqual(len(list(views_met(ring_task(125, 8)))), 1000)
        self.fails(TooMany("views", 1000), lambda: list(views_met(ring_task(143, 7))))
