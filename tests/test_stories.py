from common import Case, chances, of_every_kind, random_task

from dimkeeper.blurs import Blur
from dimkeeper.errors import BadStory, BadTask, BadText, NoDeed, NoSight, NoWay
from dimkeeper.promises import never
from dimkeeper.stories import Story, count_ways, may_be, ways_of
from dimkeeper.tasks import Task
from dimkeeper.watches import Watch
from dimkeeper.worlds import World

WORLD = World.read("left right ; l l r r x x ; l r ; l , x / x , r / x , x")
TASK = Task(WORLD, Blur({"l": "lr", "r": "lr", "x": "off"}), never(["l", "r", "x"], ["left", "right"], ["x"]))


def may_by_hand(task, steps, told=None):
    """What may be behind steps, None if a sight is shown by nothing; all ways of pairs are walked."""
    told = set(task.standing)
    for kind, name in steps:
        if kind == "see":
            told = {pair for pair in told if task.sight_of(pair[0]) == name}
        else:
            told = {(after, "broken" if kept == "broken" else task.place_of((state, kept), name))
                    for state, kept in told for after in task.world.nexts(state, name)}
    states, places = task.world.states, task.watch.states + ("broken",)
    return tuple(sorted(told, key=lambda pair: (states.index(pair[0]), places.index(pair[1]))))


def ways_by_hand(task, steps):
    """All ways that fit, in order."""
    names = [name for _, name in steps]
    ways = [(state,) for state in task.world if state in [one for one, _ in task.standing]]
    for at, name in enumerate(names):
        if at % 2 == 0:
            ways = [way for way in ways if task.sight_of(way[-1]) == name]
        else:
            ways = [way + (after,) for way in ways for after in task.world.nexts(way[-1], name)]
    return ways


def random_story(chance, task, most=6):
    """Steps that can be done, most often."""
    steps = []
    for at in range(chance.randint(0, most)):
        if at % 2:
            steps.append(("do", chance.choice(task.world.deeds)))
        else:
            shown = sorted({task.sight_of(state) for state, _ in may_by_hand(task, steps)})
            steps.append(("see", chance.choice(shown)))
    return steps


class Stories(Case):

    def test_example(self):
        story = Story.read("story see lr / do left")
        self.assertEqual((may_be(TASK, story), list(ways_of(TASK, story)), count_ways(TASK, story)),
                         ((("l", "w0"), ("x", "w0")), [("l", "l"), ("r", "x")], 2))

    def test_attributes(self):
        steps = [["see", "a"], ("do", "b"), ("see", "a.b")]
        story = Story(steps)
        steps.pop()
        steps[0][1] = "c"
        self.assertEqual((story.steps, len(story)), ((("see", "a"), ("do", "b"), ("see", "a.b")), 3))
        self.assertEqual((Story([]).steps, len(Story(())), str(Story([]))), ((), 0, "story"))
        self.assertEqual(Story(steps=(("see", "a"),)).steps, (("see", "a"),))

    def test_equality(self):
        self.same([Story([]), Story([("see", "a")]), Story([("see", "b")]), Story([("see", "a"), ("do", "a")]),
                   Story([("see", "a"), ("do", "b")])])
        self.assertEqual(Story([["see", "a"]]), Story((("see", "a"),)))

    def test_texts(self):
        for text in ["story", "story see a", "story see a / do b", "story see see / do do / see story", "story see a.b / do c / see a.b / do c"]:
            self.assertEqual(str(Story.read(text)), text)
            self.reads(Story, Story.read(text))
            self.bends(Story, text)
        for value in of_every_kind():
            if not isinstance(value, str):
                self.fails(BadText(0, 0), Story.read, value)
        long = Story([("see", "a"), ("do", "b")] * 2000)
        self.reads(Story, Story(long.steps[:40]))
        self.assertEqual(Story.read(str(long)), long)

    def test_wrong_texts(self):
        for text, word in [("", 0), (" ", 0), (" story", 0), ("story ", 1), ("Story", 0), ("see a", 0), ("story do a", 1), ("story see", 2),
                           ("story see A", 2), ("story see a /", 4), ("story see a / see b", 4), ("story see a do b", 3), ("story see a / do", 5),
                           ("story see a / do b / do c", 7), ("story / see a", 1), ("story see a / do b /", 7), ("story see a  / do b", 3),
                           ("story see a /  do b", 4), ("story story", 1)]:
            self.fails(BadText(0, word), Story.read, text)

    def test_by_hand(self):
        sizes = set()
        for chance in chances(250):
            task = random_task(chance)
            steps = random_story(chance, task)
            story = Story(steps)
            pairs, ways = may_by_hand(task, steps), ways_by_hand(task, steps)
            self.gives(pairs, may_be, task, story)
            self.gives(len(ways), count_ways, task, story)
            self.assertEqual(list(ways_of(task, story)), ways)
            self.assertEqual(list(ways_of(task, story)), ways)
            sizes.add((len(steps), min(3, len(ways)), any(kept == "broken" for _, kept in pairs)))
        self.assertTrue({(0, 1, False), (6, 3, True), (5, 1, True), (6, 1, True), (3, 2, False)} <= sizes, sizes)

    def test_a_state_that_stands_twice(self):
        task = TASK.changed(watch=never(["l", "r", "x"], ["right", "left"], ["x"]))
        self.assertEqual(list(ways_of(task, Story([]))), [("l",), ("r",)])
        watch = Watch(["l", "r", "x"], ["left", "right"], [(name, [[name, "broken"]] * 3) for name in ("k", "j")])
        both = TASK.changed(watch=watch, standing=[("l", "j"), ("r", "j"), ("l", "k")])
        self.assertEqual(may_be(both, Story([])), (("l", "k"), ("l", "j"), ("r", "j")))
        self.assertEqual((list(ways_of(both, Story([]))), count_ways(both, Story([]))), ([("l",), ("r",)], 2))
        self.assertEqual(may_be(both, Story([("see", "lr"), ("do", "left")])), (("l", "k"), ("l", "j"), ("x", "j")))
        self.assertEqual(may_be(both, Story([("see", "lr"), ("do", "right"), ("see", "off"), ("do", "left")])), (("x", "broken"),))

    def test_many_ways(self):
        world = World(["d"], [("s", "l", [["s", "t"]]), ("t", "l", [["s", "t"]])], ["s", "t"])
        task = Task(world, Blur.alike(["l"]), never(["l"], ["d"], ["l"]))
        story = Story([("see", "dark"), ("do", "d")] * 300)
        self.assertEqual(count_ways(task, story), 2 ** 301)
        first = next(iter(ways_of(task, story)))
        self.assertEqual(first, ("s",) * 301)
        # Ways that come to nothing later are not walked.
        rows = [("s", "l", [["s", "t"]]), ("t", "l", [["s", "t"]]), ("u", "l", [["v"]]), ("v", "m", [["v"]])]
        dead = Task(World(["d"], rows, ["s", "u"]), Blur.apart(["l", "m"]), never(["l", "m"], ["d"], ["l"]))
        steps = [("see", "l"), ("do", "d")] + [("see", "m"), ("do", "d")] * 40
        self.assertEqual(list(ways_of(dead, Story(steps))), [("u",) + ("v",) * 41])
        long = Task(World(["d"], [("s", "l", [["s", "t"]]), ("t", "l", [["s", "t"]]), ("u", "l", [["w"]]), ("w", "l", [["w", "v"]]),
                                  ("v", "m", [["v"]])], ["s", "u"]), Blur.apart(["l", "m"]), never(["l", "m"], ["d"], ["l"]))
        steps = [("see", "l"), ("do", "d")] * 60 + [("see", "m")]
        self.assertEqual(list(ways_of(long, Story(steps))), [("u",) + ("w",) * 59 + ("v",)])
        many = Story([("see", "l"), ("do", "d")] * 5000)
        self.assertEqual(len(next(iter(ways_of(long, many)))), 5001)

    def test_errors_of_story(self):
        for value in of_every_kind():
            if value not in ([], ()):
                self.fails(BadStory("steps"), Story, value)
            self.fails(BadStory("steps"), Story, [value])
            self.fails(BadStory("steps"), Story, [("see", "a"), value])
            if value != "x":
                self.fails(BadStory("steps"), Story, [("see", value)])
            self.fails(BadStory("steps"), Story, [(value, "a")])
        for steps in ([("do", "a")], [("see", "a"), ("see", "a")], [("see", "a", "b")], ["story"], [("see", "a"), ("do", "B")], {"see": "a"}):
            self.fails(BadStory("steps"), Story, steps)

    def test_errors(self):
        for call in (may_be, count_ways, lambda task, story: list(ways_of(task, story))):
            for value in of_every_kind():
                self.fails(BadTask("task"), call, value, value)
                self.fails(BadStory("story"), call, TASK, value)
            for steps, error in [([("see", "x")], NoSight("x")), ([("see", "off")], NoWay("off")), ([("see", "lr"), ("do", "up")], NoDeed("up")),
                                 ([("see", "lr"), ("do", "left"), ("see", "l")], NoSight("l")),
                                 ([("see", "off"), ("do", "up"), ("see", "l")], NoWay("off")),
                                 ([("see", "lr"), ("do", "up"), ("see", "l")], NoDeed("up")),
                                 ([("see", "lr"), ("do", "left"), ("see", "off"), ("do", "right"), ("see", "lr")], NoWay("lr"))]:
                self.fails(error, call, TASK, Story(steps))
            self.fails(BadStory("story"), call, TASK, "story see lr")
            self.fails(BadStory("story"), call, TASK, [("see", "lr")])
