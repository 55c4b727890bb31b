import itertools

from common import Case, chances, names, of_every_kind, random_task
from hands import parts_by_hand, ranks_by_hand
from test_views import CLEAR, DRIFT, NEVER_X, ROOMS, next_by_hand, random_view, splits_by_hand

from dimkeeper.blurs import Blur
from dimkeeper.check_views import shows_held
from dimkeeper.covers import Uncovered, cover_by, widest
from dimkeeper.errors import BadTask, BadView, TooMany
from dimkeeper.forced import Held, judge
from dimkeeper.promises import anything
from dimkeeper.tasks import Task
from dimkeeper.watches import Watch
from dimkeeper.worlds import World


def cover_by_hand(task, views):
    if not set(task.standing) <= set(views[0]):
        return Uncovered(0, None)
    entries = []
    for at, view in enumerate(views):
        for sight, part in splits_by_hand(task, view):
            told = [(at + 1, sight, deed, page + 1) for deed in task.world.deeds for page in range(len(views))
                    if parts_by_hand(task, part, deed) is not None
                    and set(next_by_hand(task, part, deed)) <= set(views[page])]
            if not told:
                return Uncovered(at + 1, sight)
            entries.append(told[0])
    return Held(views, entries)


def widest_by_hand(task):
    found = []
    for sight, view in splits_by_hand(task, task.stands()):
        subsets = [part for size in range(1, len(view) + 1) for part in itertools.combinations(view, size)]
        ranks = ranks_by_hand(task, subsets)
        held = [part for part in subsets if ranks[part] is None]
        most = [part for part in held if not any(set(part) < set(other) for other in held)]
        found += sorted(most, key=lambda part: [view.index(stand) for stand in part])
    return tuple(found)


class Covers(Case):

    def test_example(self):
        self.assertEqual([cover_by(ROOMS, [ROOMS.standing]) == Uncovered(1, "u"), cover_by(CLEAR, [CLEAR.standing]).entries],
                         [True, ((1, "l", "left", 1), (1, "r", "right", 1))])

    def test_by_hand(self):
        seen = {}
        for chance in chances(200):
            task = random_task(chance)
            paper = judge(task)
            views = list(paper.pages) if paper else [task.standing]
            views += [random_view(chance, task) for _ in range(chance.randint(0, 3))]
            if chance.random() < 0.3:
                chance.shuffle(views)
            told = cover_by_hand(task, views)
            self.gives(told, cover_by, task, views)
            self.gives(told, cover_by, task, tuple([list(stand) for stand in view] for view in views))
            self.assertIs(shows_held(task, cover_by(task, views)), told.word == "held")
            key = told.word if told else told.parts[0] and 1
            seen[key] = seen.get(key, 0) + 1
        self.assertEqual(set(seen), {"held", 0, 1})

    def test_uncovered(self):
        self.gives(Uncovered(0, None), cover_by, CLEAR, [[("p", "w0")]])
        self.gives(Uncovered(0, None), cover_by, CLEAR, [[("p", "w0")], CLEAR.standing])
        self.gives(Uncovered(2, "x"), cover_by, CLEAR, [CLEAR.standing, [("p", "w0"), ("x", "w0")]])
        world = World.read("d ; s l t m u n ; s ; t u / t / u")
        task = Task(world, Blur.apart(["l", "m", "n"]), anything(["l", "m", "n"], ["d"]))
        self.gives(Uncovered(1, "l"), cover_by, task, [[("s", "w0")], [("t", "w0")], [("u", "w0")]])
        self.gives(Held([[("s", "w0")], [("t", "w0"), ("u", "w0")], [("u", "w0")]],
                        [(1, "l", "d", 2), (2, "m", "d", 2), (2, "n", "d", 2), (3, "n", "d", 2)]),
                   cover_by, task, [[("s", "w0")], [("t", "w0"), ("u", "w0")], [("u", "w0")]])

    def test_a_view_may_stand_twice(self):
        paper = cover_by(CLEAR, [CLEAR.standing, CLEAR.standing])
        self.assertEqual(paper.entries, ((1, "l", "left", 1), (1, "r", "right", 1), (2, "l", "left", 1), (2, "r", "right", 1)))

    def test_sizes(self):
        self.assertEqual(len(cover_by(CLEAR, [CLEAR.standing] * 200).pages), 200)
        self.fails(TooMany("pages", 200), cover_by, CLEAR, [CLEAR.standing] * 201)
        self.fails(BadView("views"), cover_by, CLEAR, [CLEAR.standing] * 201 + [()])
        self.fails(TooMany("pages", 200), cover_by, CLEAR, [[("p", "w0")]] * 201)

    def test_errors(self):
        for value in of_every_kind():
            if not isinstance(value, Task):
                self.fails(BadTask("task"), cover_by, value, value)
                self.fails(BadTask("task"), widest, value)
            self.fails(BadView("views"), cover_by, CLEAR, value)
            self.fails(BadView("views"), cover_by, CLEAR, [CLEAR.standing, value])
            self.fails(BadView("views"), cover_by, CLEAR, [CLEAR.standing, [value]])
        for view in ([("q", "w0"), ("p", "w0")], [("p", "w0"), ("p", "w0")], [("p", "broken")], ("p", "w0")):
            self.fails(BadView("views"), cover_by, CLEAR, [view])
        self.fails(BadView("views"), cover_by, CLEAR, CLEAR.standing)

    def test_widest_by_hand(self):
        seen = {}
        for chance in chances(120):
            task = random_task(chance, most_states=4)
            if max(len(view) for _, view in splits_by_hand(task, task.stands())) > 6:
                continue
            told = widest_by_hand(task)
            self.gives(told, widest, task)
            self.assertTrue(told or not judge(task))
            seen[len(told)] = seen.get(len(told), 0) + 1
        self.assertTrue({0, 1, 2} <= set(seen), seen)

    def test_widest(self):
        self.gives(((("p", "w0"),), (("q", "w0"),)), widest, CLEAR)
        self.gives(((("p", "w0"),), (("q", "w0"),)), widest, ROOMS)
        free = Task(DRIFT, ROOMS.blur, anything(DRIFT.labels, DRIFT.deeds))
        self.gives(((("p", "w0"), ("q", "w0")), (("x", "w0"),)), widest, free)
        gone = Task(DRIFT, ROOMS.blur, Watch(["l", "r", "x"], ["left", "right"], [("w", [["broken"] * 2] * 3)]))
        self.gives((), widest, gone)

    def test_order_of_widest_views(self):
        # Each deed is right for its own states, so each of the widest views has the states of one deed.
        world = World(["a", "b", "c"], [(state, "l" if state != "x" else "x", [["x"] if deed not in good else [state]
                                        for deed in "abc"]) for state, good in
                                        [("s", "bc"), ("t", "ab"), ("u", "ac"), ("v", "c"), ("x", "")]], ["s", "t", "u", "v"])
        task = Task(world, Blur.apart(["l", "x"]), Watch(["l", "x"], ["a", "b", "c"],
                                                          [("w", [["w"] * 3, ["broken"] * 3])]))
        self.assertEqual([[state for state, _ in view] for view in widest(task)], [["s", "t"], ["s", "u", "v"], ["t", "u"]])

    def test_sizes_of_widest(self):
        def crowd(many):
            states = names("s", many)
            rows = [(state, "l", [[state]]) for state in states] + [("t", "m", [["t"]])]
            return Task(World(["d"], rows, states + ["t"]), Blur.apart(["l", "m"]), anything(["l", "m"], ["d"]))
        self.assertEqual([len(view) for view in widest(crowd(8))], [8, 1])
        self.fails(TooMany("stands", 8), widest, crowd(9))
        # Only stands that come about count.
        nine = crowd(9)
        self.assertEqual([len(view) for view in widest(nine.changed(standing=[("s1", "w0"), ("s5", "w0")]))], [2])
        watch = Watch(["l", "m"], ["d"], [("w", [["v"], ["v"]]), ("v", [["w"], ["w"]])])
        self.assertEqual([len(view) for view in widest(Task(crowd(4).world, nine.blur, watch))], [8, 2])
        self.fails(TooMany("stands", 8), widest, Task(crowd(5).world, nine.blur, watch))

    def test_one_page_more_than_widest_views(self):
        for chance in chances(150):
            task = random_task(chance, most_states=4)
            if max(len(view) for _, view in splits_by_hand(task, task.stands())) > 6 or not judge(task):
                continue
            behind = []
            for view in widest(task):
                for deed in task.world.deeds:
                    parts = parts_by_hand(task, view, deed)
                    if parts is not None and all(any(set(part) <= set(wide) for wide in widest(task)) for part in parts):
                        behind.append(next_by_hand(task, view, deed))
                        break
                else:
                    self.fail(view)
            self.assertTrue(cover_by(task, [task.standing] + behind))
