from common import Case, chances, names, of_every_kind, random_task

from dimkeeper.blurs import Blur
from dimkeeper.errors import (BadBlur, BadNumbers, BadStanding, BadTask, BadWatch, BadWorld, NoDeed, NoLabel, NoState,
                              NoWatchState, Unlike)
from dimkeeper.promises import again, anything
from dimkeeper.tasks import Task, choices
from dimkeeper.watches import Watch
from dimkeeper.worlds import World

DRIFT = World.read("left right ; p l q r x x ; p q ; p , x / x , q / x , x")
APART = Blur.apart(["l", "r", "x"])
SOON = again(["x", "l", "r"], ["right", "left"], ["x"], 2)


def little():
    return Task(World.read("a b ; o r ; o ; o , o"), Blur.alike(["r"]),
                Watch.read("r ; a b ; x y ; y broken / broken x"))


class Tasks(Case):

    def test_example(self):
        task = little()
        self.assertEqual((task.standing, task.stands(), choices(task, 2)), ((("o", "x"),), (("o", "x"), ("o", "y")), 16))

    def test_attributes(self):
        task = Task(DRIFT, Blur({"l": "z", "r": "a", "x": "a", "n": "m"}), SOON)
        self.assertEqual((task.world, task.blur.sights, task.watch), (DRIFT, ("a", "m", "z"), SOON))
        self.assertEqual((task.standing, task.states, task.sights),
                         ((("p", "w0"), ("q", "w0")), ("p", "q", "x"), ("a", "z")))
        told = Task(DRIFT, APART, SOON, [("x", "w1"), ["p", "w1"], ("x", "w0")])
        self.assertEqual((told.standing, told.states, told.sights),
                         ((("p", "w1"), ("x", "w0"), ("x", "w1")), ("p", "x"), ("l", "x")))
        self.assertEqual(Task(DRIFT, APART, SOON, (["x", "w1"],)).states, ("x",))

    def test_states_and_stands_by_hand(self):
        for chance in chances(80):
            task = random_task(chance)
            world = task.world
            met = {state for state, _ in task.standing}
            stands = set(task.standing)
            for _ in range(60):
                met |= {after for state in met for deed in world.deeds for after in world.nexts(state, deed)}
                for state, kept in list(stands):
                    for deed in world.deeds:
                        place = task.watch.place_of(kept, world.label_of(state), deed)
                        self.assertEqual(task.place_of((state, kept), deed), place)
                        if place != "broken":
                            stands |= {(after, place) for after in world.nexts(state, deed)}
            self.assertEqual(task.states, tuple(state for state in world if state in met))
            self.assertEqual(task.sights, tuple(sorted({task.blur.sight_of(world.label_of(state)) for state in met})))
            order = [(state, kept) for state in world for kept in task.watch]
            self.gives(tuple(stand for stand in order if stand in stands), task.stands)
            self.assertEqual(task.standing, tuple(stand for stand in order if stand in task.standing))
            for state in world:
                self.assertEqual(task.sight_of(state), task.blur.sight_of(world.label_of(state)))

    def test_a_state_comes_about_behind_a_break_too(self):
        task = Task(World.read("d ; s l t m ; s ; t / t"), APART.alike(["l", "m"]), Watch.read("l m ; d ; w ; broken , w"))
        self.assertEqual((task.states, task.stands()), (("s", "t"), (("s", "w"),)))

    def test_place_of_any_values(self):
        task = little()
        self.assertEqual([task.place_of(("o", "x"), "a"), task.place_of(["o", "x"], "b")], ["y", "broken"])
        for value in of_every_kind():
            if not (isinstance(value, (list, tuple)) and len(value) == 2):
                self.fails(BadStanding("stand"), task.place_of, value, value)
            self.fails(NoState(value), task.place_of, (value, value), value)
            self.fails(NoState(value), task.sight_of, value)
            if value != "x":
                self.fails(NoWatchState(value), task.place_of, ("o", value), value)
            self.fails(NoDeed(value), task.place_of, ("o", "x"), value)
        self.fails(NoWatchState("broken"), task.place_of, ("o", "broken"), "a")
        self.fails(BadStanding("stand"), task.place_of, "ox", "a")
        self.fails(BadStanding("stand"), task.place_of, ("o", "x", "x"), "a")

    def test_errors(self):
        blur, watch = APART, anything(["l", "r", "x"], ["left", "right"])
        for value in of_every_kind():
            if not isinstance(value, World):
                self.fails(BadWorld("world"), Task, value, value, value, value)
            if not isinstance(value, Blur):
                self.fails(BadBlur("blur"), Task, DRIFT, value, value, value)
            if not isinstance(value, Watch):
                self.fails(BadWatch("watch"), Task, DRIFT, blur, value, value)
            if value is not None:
                self.fails(BadStanding("standing"), Task, DRIFT, Blur.apart(["l"]), watch, value)
            self.fails(BadStanding("standing"), Task, DRIFT, blur, watch, [("p", "w0"), value])
            self.fails(BadStanding("standing"), Task, DRIFT, blur, watch, [("p", value)])
            if value != "x":
                self.fails(BadStanding("standing"), Task, DRIFT, blur, watch, [(value, "w0")])
        for standing in ([("p", "w0"), ["p", "w0"]], [("p", "w1")], [("p", "broken")], [("l", "w0")], ["pw"],
                         [("p", "w0", "w0")], {"p": "w0"}):
            self.fails(BadStanding("standing"), Task, DRIFT, blur, watch, standing)
        self.fails(NoLabel("r"), Task, DRIFT, Blur.apart(["l"]), anything(["x"], ["up"]))
        self.fails(NoLabel("l"), Task, DRIFT, blur, anything(["x"], ["up"]))
        self.fails(NoLabel("x"), Task, DRIFT.begun("p"), blur, anything(["r", "l"], ["up"]))
        self.fails(Unlike("deeds"), Task, DRIFT, blur, anything(["r", "l", "x"], ["left"]))
        self.fails(Unlike("deeds"), Task, DRIFT, blur, anything(["r", "l", "x"], ["left", "up"]))
        self.fails(BadStanding("standing"), Task, DRIFT, blur, anything(["r", "l", "x"], ["up"]), [])

    def test_changed(self):
        task = Task(DRIFT, APART, SOON, [("x", "w1")])
        dim = Blur.alike(["l", "r", "x"])
        self.assertEqual(task.changed(), Task(DRIFT, APART, SOON))
        self.assertEqual(task.changed(blur=dim), Task(DRIFT, dim, SOON))
        self.assertEqual(task.changed(world=DRIFT.begun("x")), Task(DRIFT.begun("x"), APART, SOON))
        self.assertEqual(task.changed(standing=[("q", "w1")]), Task(DRIFT, APART, SOON, [("q", "w1")]))
        free = anything(["l", "r", "x"], ["left", "right"])
        self.assertEqual(task.changed(watch=free, blur=dim, standing=[["q", "w0"]]), Task(DRIFT, dim, free, [("q", "w0")]))
        self.assertEqual(task, Task(DRIFT, APART, SOON, [("x", "w1")]))
        self.fails(BadStanding("standing"), task.changed, watch=free, standing=[("x", "w1")])
        for value in of_every_kind():
            if value is not None:
                if not isinstance(value, World):
                    self.fails(BadWorld("world"), task.changed, world=value)
                self.fails(BadStanding("standing"), task.changed, standing=value)
        self.fails(BadBlur("blur"), task.changed, blur=1, watch=1)
        self.fails(NoLabel("l"), task.changed, blur=Blur.apart(["x"]))
        with self.assertRaises(TypeError):
            task.changed(DRIFT)

    def test_equality(self):
        self.same([Task(DRIFT, APART, SOON), Task(DRIFT, APART, SOON, [("p", "w0")]), Task(DRIFT.begun("p"), APART, SOON),
                   Task(DRIFT, Blur.alike(["l", "r", "x"]), SOON), Task(DRIFT, APART, SOON.begun("w1")),
                   Task(DRIFT.begun("q"), APART, SOON, [("p", "w0")]),
                   Task(DRIFT, APART, again(["x", "l", "r"], ["right", "left"], ["x"], 3)),
                   Task(DRIFT.begun("p", "q", "x"), APART, SOON, [("p", "w0"), ("q", "w0")]),
                   Task(DRIFT, Blur({"l": "a", "r": "b", "x": "c"}), SOON)])
        self.assertEqual(Task(DRIFT, APART, SOON), Task(DRIFT, APART, SOON, [("q", "w0"), ("p", "w0")]))

    def test_nothing_is_shared(self):
        standing = [["p", "w0"]]
        task = Task(DRIFT, APART, SOON, standing)
        standing[0][0] = "x"
        standing.append(["q", "w0"])
        self.assertEqual(task.standing, (("p", "w0"),))

    def test_choices(self):
        for chance in chances(40):
            task = random_task(chance)
            for k in (1, 2, 3, 5, 200):
                product = 1
                for at in range(1, k * len(task.sights) + 1):
                    product = min(product * len(task.world.deeds) * min(at + 1, k), 1000000)
                self.gives(product, choices, task, k)

    def test_choices_at_the_bound(self):
        def wide(deeds, sights):
            labels = names("l", sights)
            rows = [(label, label, [labels] * deeds) for label in labels]
            return Task(World(names("d", deeds), rows, labels[:1]), Blur.apart(labels), anything(labels, names("d", deeds)))
        self.assertEqual(choices(wide(10, 6), 1), 1000000)
        self.assertEqual(choices(wide(10, 5), 1), 100000)
        self.assertEqual(choices(wide(10, 7), 1), 1000000)
        self.assertEqual(choices(wide(1, 200), 1), 1)
        self.assertEqual(choices(wide(12, 2), 2), 12 ** 4 * 16)
        self.assertEqual(choices(wide(1, 20), 2), 1000000)
        self.assertEqual(choices(wide(1, 9), 2), 2 ** 18)
        self.assertEqual(choices(wide(1, 10), 2), 1000000)
        self.assertEqual(choices(wide(1, 3), 3), 2 * 3 ** 8)
        self.assertEqual(choices(wide(1, 1), 200), 1000000)

    def test_bad_choices(self):
        for value in of_every_kind() + [201, 0]:
            if value is True or type(value) is not int or not 1 <= value <= 200:
                self.fails(BadNumbers("k"), choices, little(), value)
            if not isinstance(value, Task):
                self.fails(BadTask("task"), choices, value, value)
