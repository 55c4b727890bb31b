from common import Case, chances, of_every_kind, random_task
from table_hands import cells_of, entry_of, plays_by_hand, random_table

from dimkeeper.blurs import Blur
from dimkeeper.errors import BadNumbers, BadPlay, BadTable, BadTask, NoEntry, TooMany, Unlike
from dimkeeper.plays import Play, plays
from dimkeeper.promises import anything
from dimkeeper.tables import Table
from dimkeeper.tasks import Task
from dimkeeper.watches import Watch
from dimkeeper.worlds import World

WORLD = World(["a", "b"], [("o", "r", (["o"], ["o"]))], ["o"])
TURNS = Watch(["r"], ["a", "b"], [("x", [("y", "broken")]), ("y", [("broken", "x")])])
TASK = Task(WORLD, Blur.apart(["r"]), TURNS)
TABLE, FLAT = Table(2, [(2, "r", "b", 1), (1, "r", "a", 2)]), Table(1, [(1, "r", "a", 1)])

FORK = World.read("a b ; s l t l u m v m ; s u ; s t , u / t u , v / s v , u / v , v")
SEEN = Task(FORK, Blur.apart(["l", "m"]), anything(["l", "m"], ["b", "a"]))


class Plays(Case):

    def test_example(self):
        play = Play(TASK, TABLE, ["o", "o", "o"])
        self.assertEqual([play.deeds, play.places, play.breaks_at, Play(TASK, FLAT, ["o", "o", "o"]).places,
                          list(plays(TASK, TABLE, 2))],
                         [("a", "b", "a"), ("y", "x", "y"), None, ("y", "broken", "broken"), [("o", "o")]])

    def test_attributes(self):
        watch = Watch(["l", "m"], ["b", "a"], [("x", [["x", "y"], ["y", "x"]]), ("y", [["broken", "y"], ["x", "x"]])])
        task = SEEN.changed(watch=watch, standing=[("u", "y"), ("s", "y"), ("s", "x")])
        table = Table(3, [(1, "l", "a", 2), (2, "l", "b", 3), (3, "m", "a", 1)])
        play = Play(task, table, ("s", "t", "v", "v"), "y")
        self.assertEqual((play.states, play.sights, play.pages), (("s", "t", "v", "v"), tuple("llmm"), (1, 2, 3, 1)))
        self.assertEqual((play.deeds, play.places, play.breaks_at), (("a", "b", "a"), ("y", "broken", "broken"), 1))
        # Without a first watch state the first one in the order of the watch is taken.
        play = Play(task, table, ["s", "t"])
        self.assertEqual((play.places, play.breaks_at, play.deeds), (("y", "broken"), 1, ("a", "b")))
        self.assertEqual(Play(task, table, ["s", "t"], first="x"), play)
        self.assertEqual(Play(task, table, ["u"]).places, ())
        self.assertEqual((Play(task, table, ["u"]).deeds, Play(task, table, ["u"]).pages), ((), (1,)))

    def test_by_hand(self):
        seen = {}
        for chance in chances(150):
            task = random_task(chance)
            table = random_table(chance, task)
            cells = cells_of(table)
            many = chance.randint(1, 5)
            told = plays_by_hand(task, cells, many)
            self.assertEqual(list(plays(task, table, many)), told)
            self.assertEqual(len(set(told)), len(told))
            for states in chance.sample(told, min(4, len(told))):
                begun = [kept for state, kept in task.standing if state == states[0]]
                for first in [None] + begun:
                    play = Play(task, table, list(states), first)
                    page, place, at = 1, first or begun[0], None
                    pages, deeds, reached = [], [], []
                    for number, state in enumerate(states):
                        pages.append(page)
                        entry = entry_of(task, cells, state, page)
                        if entry:
                            deeds.append(entry[0])
                            place = place if place == "broken" else task.place_of((state, place), entry[0])
                            at = number if place == "broken" and at is None else at
                            reached.append(place)
                            page = entry[1]
                    self.assertEqual((play.states, play.pages, play.deeds, play.places, play.breaks_at),
                                     (states, tuple(pages), tuple(deeds), tuple(reached), at))
                    self.assertEqual(play.sights, tuple(task.sight_of(state) for state in states))
                    key = (at is None, len(deeds) == len(states))
                    seen[key] = seen.get(key, 0) + 1
        self.assertEqual(len(seen), 4)

    def test_plays_of_states_that_stand_twice(self):
        watch = Watch(["l", "m"], ["a", "b"], [("x", [["x"] * 2] * 2), ("y", [["y"] * 2] * 2)])
        task = SEEN.changed(watch=watch, standing=[("u", "y"), ("s", "x"), ("s", "y")])
        table = Table(1, [(1, "l", "a", 1)])
        self.assertEqual(list(plays(task, table, 3)), [("s", "s", "s"), ("s", "s", "t"), ("s", "t", "t"), ("s", "t", "u"), ("u",)])
        self.assertEqual(list(plays(task, table, 1)), [("s",), ("u",)])

    def test_sizes(self):
        self.assertEqual(list(plays(TASK, TABLE, 12)), [("o",) * 12])
        self.fails(TooMany("many", 12), lambda many: list(plays(TASK, TABLE, many)), 13)
        self.assertEqual(Play(TASK, TABLE, ["o"] * 300).deeds, ("a", "b") * 150)

    def test_equality(self):
        self.same([Play(TASK, TABLE, ["o"]), Play(TASK, TABLE, ["o"] * 2), Play(TASK, FLAT, ["o"] * 2),
                   Play(TASK.changed(watch=anything(["r"], ["a", "b"])), TABLE, ["o"]),
                   Play(TASK.changed(blur=Blur.alike(["r"])), Table(1, [(1, "dark", "a", 1)]), ["o"]),
                   Play(TASK, Table(2, [(2, "r", "a", 2), (1, "r", "a", 2)]), ["o"] * 3)])
        free = SEEN.changed(standing=[("u", "w0"), ("s", "w0"), ("t", "w0"), ("v", "w0")])
        flat = Table(1, [(1, "l", "a", 1), (1, "m", "a", 1)])
        self.same([Play(free, flat, told) for told in (["s", "s"], ["s", "t"], ["t", "t"], ["u", "v"], ["v", "v"])])
        self.same([Play(free, table, ["s", "s"]) for table in (
            flat, Table(2, [(1, "l", "a", 2), (2, "l", "a", 1)]), Table(2, [(1, "l", "a", 2)]))])
        self.same([Play(free, Table(1, [(1, "m", deed, 1)]), ["v", "v"]) for deed in "ab"])
        # What makes the same play is equal, though it was made of other things.
        self.assertEqual(Play(TASK, TABLE, ["o"]), Play(TASK, FLAT, ("o",), "x"))

    def test_values_are_copied(self):
        states = ["o", "o"]
        play = Play(TASK, TABLE, states)
        states.append("o")
        self.assertEqual(play.states, ("o", "o"))

    def test_errors(self):
        for value in of_every_kind():
            if not isinstance(value, Task):
                self.fails(BadTask("task"), Play, value, value, value, value)
                self.fails(BadTask("task"), lambda told: list(plays(told, told, told)), value)
            self.fails(BadTable("table"), Play, TASK, value, value, value)
            self.fails(BadTable("table"), lambda told: list(plays(TASK, told, told)), value)
            self.fails(BadPlay("states"), Play, TASK, TABLE, value, value)
            self.fails(BadPlay("states"), Play, TASK, TABLE, ["o", value])
            self.fails(BadPlay("states"), Play, TASK, TABLE, [value, "o"])
            if value is not None and value != "x":
                self.fails(BadPlay("first"), Play, TASK, TABLE, ["o"], value)
            if not (type(value) is int and value >= 1):
                self.fails(BadNumbers("many"), lambda told: list(plays(TASK, TABLE, told)), value)
        self.fails(BadPlay("first"), Play, TASK, TABLE, ["o"], "y")
        odd = Table(1, [(1, "r", "a", 1), (1, "never", "c", 1)])
        self.fails(Unlike("deeds"), Play, TASK, odd, ["o"])
        self.fails(BadPlay("first"), Play, TASK, odd, ["o"], "y")
        self.fails(BadPlay("states"), Play, TASK, odd, [], "y")
        self.fails(Unlike("deeds"), lambda: list(plays(TASK, odd, 13)))
        self.fails(BadNumbers("many"), lambda: list(plays(TASK, odd, 0)))

    def test_errors_along_the_states(self):
        table = Table(2, [(1, "l", "a", 2), (2, "l", "a", 1), (2, "m", "a", 2)])
        self.fails(BadPlay("states"), Play, SEEN, table, ["t"])
        self.fails(BadPlay("next"), Play, SEEN, table, ["s", "u"])
        self.fails(NoEntry(1, "m"), Play, SEEN, table, ["u", "u"])
        # What comes first along the states is told: the entry that lacks ahead of the next state that is none.
        self.fails(NoEntry(1, "m"), Play, SEEN, table, ["u", "t"])
        self.fails(NoEntry(1, "m"), Play, SEEN, table, ["s", "t", "u", "s"])
        self.fails(BadPlay("next"), Play, SEEN, table, ["s", "v", "u", "s"])
        self.assertEqual(Play(SEEN, table, ["s", "t", "u"]).pages, (1, 2, 1))
        self.fails(BadPlay("next"), Play, SEEN, table, ["s"] + ["t"] * 3 + ["v"])
