"""The fronts of sights and of promises."""

import itertools

from common import Case, chances, of_every_kind, random_watch
from table_hands import all_cells, ends_by_hand, small_task
from test_fronts import AAB, STILL, WORLD
from test_keepers import BY_TURNS, free_task

from dimkeeper.blurs import Blur, blurs_of, is_finer
from dimkeeper.errors import BadBlur, BadFront, BadNumbers, BadTask, NoLabel, TooMany, Twice, Unlike
from dimkeeper.keepers import first_kept
from dimkeeper.least import keep
from dimkeeper.papers import Denial, Paper
from dimkeeper.promise_fronts import PromiseFront, joint, promise_front
from dimkeeper.promises import again, anything, both, done_in_turn, never, never_done
from dimkeeper.sight_fronts import SightFront, is_enough, sight_front
from dimkeeper.tasks import Task, choices
from dimkeeper.watches import Watch
from dimkeeper.worlds import World

SOON = Task(WORLD, Blur.alike(["h", "e"]), again(["h", "e"], ["a", "b"], ["h"], 2))
TURNS = done_in_turn(["r"], ["a", "b"], ["a", "b"])
TOLD = [("turns", TURNS), ("no.b", never_done(["r"], ["a", "b"], ["b"])), ("no.a", never_done(["r"], ["a", "b"], ["a"]))]
ONE = Task(STILL, Blur.alike(["r"]), TURNS)


def holds_by_hand(task, k):
    return any(ends_by_hand(task, cells) == (None, None) for cells in all_cells(task, k))


def labels_task(many):
    """So many labels, each of one state."""
    return free_task(["d"], many)


class SightFronts(Case):

    def test_example(self):
        one, two = sight_front(SOON, 1), sight_front(SOON, 2)
        self.assertEqual([len(one.enough), len(one.enough[0][0].sights), len(one.short[0][0].sights), len(two.enough[0][0].sights),
                          two.short], [1, 2, 1, 1, ()])

    def test_paper(self):
        paper = SightFront([[1, 2]], [])
        self.assertEqual((paper.word, paper.parts, bool(paper), isinstance(paper, Denial), isinstance(paper, Paper)),
                         ("sightfront", (((1, 2),), ()), True, False, True))
        self.assertEqual((paper.enough, paper.short), paper.parts)
        self.assertEqual(SightFront(short=(), enough=((1, 2),)), paper)
        other = PromiseFront([[1, 2]], [])
        self.assertEqual((other.word, other.parts, bool(other), isinstance(other, Denial)), ("promisefront", (((1, 2),), ()), True, False))
        self.assertEqual((other.held, other.short), other.parts)
        self.assertEqual(PromiseFront(short=(), held=((1, 2),)), other)
        self.same([paper, SightFront([], []), SightFront([[1, 2]], [1]), other, PromiseFront([], []), Paper("sightfront", *paper.parts)])

    def test_by_hand(self):
        seen = {}
        for chance in chances(160):
            k = chance.choice([1, 1, 2])
            task = small_task(chance, k, 500, most_states=4, most_deeds=2, most_labels=4 if k == 1 else 2)
            apart = task.changed(blur=Blur.apart(task.world.labels), standing=task.standing)
            if choices(apart, k) > 500 or (len(task.world.deeds) * k) ** (k * len(apart.sights)) > 1500:
                continue
            blurs = list(blurs_of(task.world.labels))
            tasks = [Task(task.world, blur, task.watch, task.standing) for blur in blurs]
            fine = [holds_by_hand(one, k) for one in tasks]
            for blur, is_fine in zip(blurs, fine):
                self.assertIs(is_enough(task, k, blur), is_fine)
            front = sight_front(task, k)
            enough = [at for at, is_fine in enumerate(fine) if is_fine]
            short = [at for at, is_fine in enumerate(fine) if not is_fine]
            coarsest = [at for at in enough if not any(one != at and is_finer(blurs[at], blurs[one]) for one in enough)]
            finest = [at for at in short if not any(one != at and is_finer(blurs[one], blurs[at]) for one in short)]
            self.assertEqual(front.enough, tuple((blurs[at], keep(tasks[at], k)) for at in coarsest))
            self.assertEqual(front.short, tuple((blurs[at], keep(tasks[at], k)) for at in finest))
            # What is finer than an enough blur is enough.
            for at, other in itertools.product(range(len(blurs)), repeat=2):
                if fine[at] and is_finer(blurs[other], blurs[at]):
                    self.assertTrue(fine[other])
            seen[min(2, len(coarsest)), min(2, len(finest)), len(task.world.labels)] = True
        self.assertTrue({(0, 1, 2), (1, 0, 2), (1, 1, 2), (1, 0, 3), (0, 1, 3)} <= set(seen), seen)

    def test_several_coarsest_blurs(self):
        # Two of three labels are to be told apart from the third one, in either of two ways.
        world = World(["a", "b", "c"], [("p", "l", [["p"], ["p"], ["x"]]), ("q", "m", [["q"], ["x"], ["q"]]),
                                        ("r", "n", [["x"], ["r"], ["r"]]), ("x", "x", [["x"]] * 3)], ["p", "q", "r"])
        task = Task(world, Blur.apart(world.labels), never(world.labels, world.deeds, ["x"]))
        front = sight_front(task, 1)
        self.assertEqual([str(blur) for blur, _ in front.enough], ["l l m l n n x l", "l l m l n n x n", "l l m m n l x l",
                                                                   "l l m m n l x m", "l l m m n m x l", "l l m m n m x m"])
        self.assertEqual([str(blur) for blur, _ in front.short], ["l l m l n l x x"])

    def test_the_standing_stays(self):
        # Begun at its standing the task is held, begun at its starts it is not.
        watch = never(["l", "x"], ["d"], ["x"])
        world = World(["d"], [("p", "l", [["p"]]), ("q", "l", [["x"]]), ("x", "x", [["x"]])], ["q"])
        task = Task(world, Blur.apart(["l", "x"]), watch, [("p", "w0")])
        self.assertTrue(is_enough(task, 1, Blur.alike(["l", "x"])))
        self.assertFalse(is_enough(task.changed(), 1, Blur.alike(["l", "x"])))
        self.assertEqual(sight_front(task, 1).short, ())
        self.assertEqual(sight_front(task.changed(), 1).enough, ())
        # Labels that do not come about are the world's, too.
        self.assertEqual([str(blur) for blur, _ in sight_front(task, 1).enough], ["l l x l"])

    def test_errors(self):
        blur = Blur.alike(["h", "e"])
        for value in of_every_kind():
            self.fails(BadTask("task"), is_enough, value, value, value)
            self.fails(BadTask("task"), sight_front, value, value)
            if not isinstance(value, Blur):
                self.fails(BadBlur("blur"), is_enough, SOON, 1, value)
            if value is True or type(value) is not int or value != 1:
                self.fails(BadNumbers("k"), is_enough, SOON, value, None)
                self.fails(BadNumbers("k"), sight_front, SOON, value)
        for number in (0, 201, True):
            self.fails(BadNumbers("k"), is_enough, SOON, number, blur)
            self.fails(BadNumbers("k"), sight_front, labels_task(6), number)
        for labels in (["h"], ["h", "e", "l"], ["h", "l"]):
            self.fails(Unlike("labels"), is_enough, SOON, 200, Blur.alike(labels))
        self.fails(TooMany("choices", 100000), is_enough, SOON, 200, blur)
        self.fails(TooMany("choices", 100000), sight_front, SOON, 200)
        self.fails(TooMany("labels", 5), sight_front, labels_task(6), 200)
        self.assertEqual(len(sight_front(labels_task(5), 1).enough), 1)
        # The choices of is_enough are those with its blur, those of sight_front those with all labels apart.
        wide = free_task(list("ab"), 5)
        self.assertTrue(is_enough(wide, 3, Blur.alike(wide.world.labels)))
        self.fails(TooMany("choices", 100000), is_enough, wide, 3, Blur.apart(wide.world.labels))
        self.fails(TooMany("choices", 100000), sight_front, wide.changed(blur=Blur.alike(wide.world.labels)), 3)


def joint_by_hand(task, promises):
    """One table is tried by each promise alone."""
    firsts = [(watch, [(state, watch.first) for state in dict(task.standing)]) for watch in promises]
    return [Task(task.world, task.blur, watch, stands) for watch, stands in firsts]


class PromiseFronts(Case):

    def test_example(self):
        front = promise_front(ONE, TOLD, 1)
        self.assertEqual([front.held[0][0], front.held[1][0], front.short[0][0], front.short[1][0]],
                         [("no.b",), ("no.a",), ("turns",), ("no.b", "no.a")])

    def test_joint(self):
        task = ONE.changed(watch=AAB, standing=[("o", "v"), ("o", "w")])
        self.assertEqual(joint(task, [TURNS]), Task(STILL, task.blur, TURNS))
        self.assertEqual(joint(task, (TURNS, AAB)), Task(STILL, task.blur, both(TURNS, AAB)))
        self.assertEqual(joint(task, [TURNS, AAB, TOLD[1][1]]), Task(STILL, task.blur, both(both(TURNS, AAB), TOLD[1][1])))
        # The states of the standing, not the starts, each with the first watch state.
        world = World(["d"], [("p", "l", [["p"]]), ("q", "l", [["p"]])], ["p"])
        watch = Watch(["l"], ["d"], [("k", [["j"]]), ("j", [["k"]])])
        told = joint(Task(world, Blur.apart(["l"]), watch, [("q", "j"), ("q", "k")]), [watch])
        self.assertEqual((told.standing, told.watch), ((("q", "k"),), watch))

    def test_by_hand(self):
        seen = {}
        for chance in chances(120):
            k = chance.choice([1, 2])
            task = small_task(chance, k, 300, most_states=3, most_deeds=2, most_labels=2)
            if choices(task, k) > 300:
                continue
            labels, deeds = task.watch.labels, task.watch.deeds
            promises = [(f"n{at}", random_watch(chance, labels, deeds, 3, 0.15)) for at in range(chance.randint(1, 4))]
            chance.shuffle(promises)
            front = promise_front(task, promises, k)
            places = [row for many in range(1, len(promises) + 1) for row in itertools.combinations(range(len(promises)), many)]
            good = {}
            for row in places:
                tasks = joint_by_hand(task, [promises[at][1] for at in row])
                good[row] = any(all(ends_by_hand(one, cells) == (None, None) for one in tasks) for cells in all_cells(task, k))
            greatest = sorted(row for row in places if good[row] and not any(
                good[other] and set(row) < set(other) for other in places))
            least = sorted(row for row in places if not good[row] and not any(
                not good[other] and set(other) < set(row) for other in places))
            for told, rows in ((front.held, greatest), (front.short, least)):
                papers = [keep(joint(task, [promises[at][1] for at in row]), k) for row in rows]
                self.assertEqual(told, tuple((tuple(promises[at][0] for at in row), paper) for row, paper in zip(rows, papers)))
            # What stands within a set held together is held together.
            for row, other in itertools.product(places, repeat=2):
                if good[other] and set(row) <= set(other):
                    self.assertTrue(good[row])
            seen[len(promises), min(2, len(greatest)), min(2, len(least))] = True
        self.assertTrue({(1, 1, 0), (1, 0, 1), (3, 0, 2), (4, 2, 1), (4, 2, 2), (4, 1, 2)} <= set(seen), seen)

    def test_orders_of_sets(self):
        ever = anything(["r"], ["a", "b"])
        told = [("z", TOLD[1][1]), ("b", TURNS), ("y", TOLD[2][1]), ("a", ever)]
        front = promise_front(ONE, told, 2)
        self.assertEqual([row for row, _ in front.held], [("z", "a"), ("b", "a"), ("y", "a")])
        self.assertEqual([row for row, _ in front.short], [("z", "b"), ("z", "y"), ("b", "y")])
        self.assertEqual([row for row, _ in promise_front(ONE, told[3:], 1).held], [("a",)])
        self.assertEqual(front.held[0][1], first_kept(joint(ONE, [told[0][1], ever]), 2))

    def test_the_task_s_own_watch_is_not_asked(self):
        broken = ONE.changed(watch=never(["r"], ["a", "b"], ["r"]))
        self.assertEqual(promise_front(broken, TOLD, 1), promise_front(ONE, TOLD, 1))

    def test_errors_of_joint(self):
        for value in of_every_kind():
            self.fails(BadTask("task"), joint, value, value)
            self.fails(BadFront("watches"), joint, ONE, value)
            if not isinstance(value, Watch):
                self.fails(BadFront("watches"), joint, ONE, [TURNS, value])
        self.fails(Unlike("labels"), joint, ONE, [TURNS, anything(["r", "s"], ["a", "b"])])
        self.fails(Unlike("deeds"), joint, ONE, [TURNS, anything(["r"], ["b", "a"])])
        self.fails(NoLabel("r"), joint, ONE, [anything(["s"], ["a", "b"])])
        self.fails(Unlike("deeds"), joint, ONE, [anything(["r"], ["a", "c"])])
        self.assertEqual(joint(ONE, [anything(["s", "r"], ["b", "a"])]).watch.labels, ("s", "r"))
        wide = [again(["l0", "l1", "l2"], ["a"], [label], 20) for label in ("l0", "l1")]
        task = Task(World(["a"], [("s", "l0", [["s"]])], ["s"]), Blur.apart(["l0"]), wide[0])
        self.fails(TooMany("states", 200), joint, task, wide)

    def test_errors(self):
        for value in of_every_kind():
            self.fails(BadTask("task"), promise_front, value, value, value)
            self.fails(BadFront("promises"), promise_front, ONE, value, value)
            self.fails(BadFront("promises"), promise_front, ONE, TOLD + [value], value)
            if not isinstance(value, Watch):
                self.fails(BadFront("promises"), promise_front, ONE, [("n", value)], 0)
            if value != "x":
                self.fails(BadFront("promises"), promise_front, ONE, TOLD + [(value, TURNS)], 0)
            if value is True or type(value) is not int or value != 1:
                self.fails(BadNumbers("k"), promise_front, ONE, TOLD + TOLD, value)
        for number in (0, 201, True):
            self.fails(BadNumbers("k"), promise_front, ONE, TOLD + TOLD, number)
        self.fails(Twice("no.a"), promise_front, ONE, TOLD + TOLD[::-1], 1)
        four = TOLD + [("d", TURNS)]
        self.fails(TooMany("promises", 4), promise_front, ONE, four + [("e", anything(["s"], ["a", "b"]))], 200)
        self.fails(Unlike("labels"), promise_front, ONE, TOLD + [("e", anything(["s"], ["a", "b"]))], 200)
        self.fails(NoLabel("r"), promise_front, ONE, [("e", anything(["s"], ["a", "b"]))], 200)
        self.fails(TooMany("choices", 100000), promise_front, ONE, four, 200)
        self.assertEqual(len(promise_front(ONE, four, 1).held), 2)
        self.fails(BadFront("promises"), promise_front, ONE, [("n", TURNS, 1)], 1)
        self.assertEqual(promise_front(ONE, (["n", TURNS],), 2), promise_front(ONE, [("n", TURNS)], 2))

    def test_too_many_states_of_fewer_watches(self):
        # All together break at once and are few; two of them alone are many.
        labels, deeds = ["l0", "l1", "l2"], ["a", "b"]
        told = [("hopeless", never(labels, deeds, labels)), ("x", again(labels, deeds, ["l0"], 20)),
                ("y", again(labels, deeds, ["l1"], 20))]
        task = Task(World(["a", "b"], [("s", "l0", [["s"], ["s"]])], ["s"]), Blur.apart(["l0"]), told[0][1])
        self.assertEqual(len(joint(task, [watch for _, watch in told]).watch), 1)
        self.fails(TooMany("choices", 100000), promise_front, task, told, 9)
        self.fails(TooMany("states", 200), promise_front, task, told, 1)
        self.fails(TooMany("states", 200), promise_front, task, told[1:], 9)
        self.assertEqual(choices(BY_TURNS, 1), 2)
