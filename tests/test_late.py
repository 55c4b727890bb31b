"""Sights that come late, tables in time, and promises carried to made worlds."""

from common import Case, chances, names, of_every_kind, random_watch, random_world
from table_hands import cells_of, ends_by_hand, random_table

from dimkeeper.blurs import Blur
from dimkeeper.carry import made_task
from dimkeeper.closed import holds
from dimkeeper.errors import BadBlur, BadStanding, BadTable, BadWatch, BadWorld, NoLabel, TooMany, Twice, Unlike
from dimkeeper.forced import judge
from dimkeeper.keepers import first_kept, kept_tables
from dimkeeper.late import in_time, late
from dimkeeper.made import Made, beside
from dimkeeper.promises import anything, both, never
from dimkeeper.tables import Table
from dimkeeper.tasks import Task, choices
from dimkeeper.watches import Watch
from dimkeeper.worlds import World

DRIFT = World(("left", "right"), [("p", "l", (("p",), ("x",))), ("q", "r", (("x",), ("q",))), ("x", "x", (("x",), ("x",)))],
              ("q", "p"))
DIM = Blur({"l": "u", "r": "u", "x": "x"})
LATE_TABLE = Table(1, [(1, "none", "a", 1), (1, "s", "a", 1), (1, "f", "b", 1)])
COIN = World(("a", "b"), [("o", "r", (("o",), ("o",)))], ("o",))


def late_by_hand(world, blur, blank):
    """The states, labels, next states and starts of the late world, by its words."""
    def seen(state):
        return blur.sight_of(world.label_of(state))
    met = [(start, blank) for start in world.starts]
    for state, _ in met:
        for deed in world.deeds:
            met += [(after, seen(state)) for after in world.nexts(state, deed) if (after, seen(state)) not in met]
    order = []
    for state in world:
        ahead = sorted({seen(other) for other in world for deed in world.deeds if state in world.nexts(other, deed)})
        order += [(state, o) for o in ([blank] if state in world.starts else []) + ahead if (state, o) in met]
    rows = [(f"{s}.{o}", f"{world.label_of(s)}.{o}", [[f"{t}.{seen(s)}" for t in world.nexts(s, deed)] for deed in world.deeds])
            for s, o in order]
    return World(world.deeds, rows, [f"{s}.{blank}" for s in world.starts]), order


def random_blur(chance, labels, sights=2):
    return Blur({label: chance.choice(names("o", sights)) for label in labels})


class Late(Case):

    def test_example(self):
        one = late(DRIFT, DIM)
        self.assertEqual([one.world.states, one.world.nexts("p.none", "right"), one.blur.sight_of("x.u")],
                         [("p.none", "p.u", "q.none", "q.u", "x.u", "x.x"), ("x.u",), "u"])
        self.assertEqual(str(in_time(LATE_TABLE, ("s", "f"))), "3 : 1 f a 3 / 1 s a 2 / 2 f a 3 / 2 s a 2 / 3 f b 3 / 3 s b 2")

    def test_by_hand(self):
        sizes = set()
        for chance in chances(150):
            world = random_world(chance, most_states=6)
            blur = random_blur(chance, sorted(world.labels) + ["odd"], 3)
            blank = chance.choice(["none", "blank.b", "a", "z"])
            made = late(world, blur, blank)
            told, order = late_by_hand(world, blur, blank)
            self.assertEqual(made.world, told)
            self.assertEqual(made.world.states, tuple(f"{s}.{o}" for s, o in order))
            self.assertEqual(made.blur, Blur({f"{world.label_of(s)}.{o}": o for s, o in order}))
            self.assertEqual(made.labels, {f"{world.label_of(s)}.{o}": world.label_of(s) for s, o in order})
            self.assertEqual(list(made.labels), list(made.world.labels))
            self.assertEqual(made.deeds, {deed: deed for deed in world.deeds})
            self.assertEqual(late(world, blur, blank), made)
            self.assertEqual(made.world.cut(), made.world)
            sizes.add((len(world.starts), len(made.world) > len(world)))
        self.assertTrue({(1, True), (2, True), (1, False)} <= sizes, sizes)

    def test_late_tables_by_hand(self):
        # A play over late sights: the sight of the moment before is asked, at moment 0 the blank one.
        kinds = set()
        for chance in chances(150):
            world = random_world(chance, most_states=4, most_deeds=2)
            blur = random_blur(chance, sorted(world.labels))
            watch = random_watch(chance, sorted(world.labels), world.deeds, 3, 0.1)
            made = late(world, blur)
            task = made_task(made, watch)
            table = random_table(chance, task, 2, 0)
            cells = cells_of(table)
            due, seen, fine = {(start, 1, watch.first, "none") for start in world.starts}, set(), True
            while due:
                state, page, kept, sight = case = due.pop()
                seen.add(case)
                deed, after = cells[page, sight]
                place = watch.place_of(kept, world.label_of(state), deed)
                if place == "broken":
                    fine = False
                    break
                now = blur.sight_of(world.label_of(state))
                due |= {(one, after, place, now) for one in world.nexts(state, deed)} - seen
            self.assertEqual(bool(holds(task, table)), fine)
            kinds.add(fine)
        self.assertEqual(kinds, {True, False})

    def test_facts(self):
        # What holds late holds in time with k n + 1 pages; a task lost at r in time is lost at r or less when late.
        seen = set()
        for chance in chances(200):
            world = random_world(chance, most_states=4, most_deeds=2)
            blur = random_blur(chance, sorted(world.labels))
            watch = random_watch(chance, sorted(world.labels), world.deeds, 3, 0.1)
            task, slow = Task(world, blur, watch), made_task(late(world, blur), watch)
            verdict = judge(task)
            if not verdict:
                self.assertLessEqual(judge(slow).number, verdict.number)
                seen.add("lost")
            sights = [sight for sight in slow.sights if sight != "none"]
            if choices(slow, 2) > 2000 or not sights:
                continue
            for table in list(kept_tables(slow, 2))[:5]:
                told = in_time(table, sights)
                self.assertLessEqual(told.pages, table.pages * len(sights) + 1)
                # The sights that are seen in time last may not be among the late ones.
                wide = in_time(table, sorted(set(sights) | set(task.sights)))
                self.assertTrue(holds(task, wide))
                if set(task.sights) <= set(sights):
                    self.assertTrue(holds(task, told))
                    seen.add("held")
        self.assertEqual(seen, {"lost", "held"})

    def test_in_time_by_hand(self):
        for chance in chances(80):
            pages, sights = chance.randint(1, 3), chance.sample(["f", "s", "a.b", "z"], chance.randint(1, 3))
            cells = [(page, sight) for page in range(1, pages + 1) for sight in ["none", "odd"] + sights]
            told = [(*cell, chance.choice("ab"), chance.randint(1, pages)) for cell in cells if chance.random() < 0.7]
            if not told:
                continue
            numbers = {(1, "none"): 1}
            for page in range(1, pages + 1):
                for sight in sights:
                    numbers[page, sight] = len(numbers) + 1
            rows = [(numbers[page, seen], sight, deed, numbers[after, sight]) for page, seen, deed, after in told
                    if (page, seen) in numbers for sight in sights]
            table = Table(pages, told)
            if rows:
                self.assertEqual(in_time(table, sights), Table(len(numbers), rows))
                self.assertEqual(in_time(table, tuple(sights), blank="none").pages, pages * len(sights) + 1)
            else:
                self.fails(BadTable("entries"), in_time, table, sights)

    def test_blanks(self):
        self.fails(BadBlur("blank"), late, DRIFT, DIM, "u")
        self.fails(BadBlur("blank"), late, DRIFT, DIM, "x")
        self.fails(BadBlur("blank"), late, DRIFT, Blur({"odd": "none"}))
        self.fails(BadBlur("blank"), late, DRIFT, Blur({"l": "none", "r": "u", "x": "x"}))
        # A label may be called like the blank.
        made = late(World(["a"], [("none", "none", [["none"]])], ["none"]), Blur({"none": "o"}))
        self.assertEqual(made.world.states, ("none.none", "none.o"))
        self.assertEqual(str(in_time(Table(2, [(1, "s", "a", 2), (2, "none", "b", 1), (1, "blank", "b", 2)]), ["none", "s"], "blank")),
                         "5 : 1 none b 4 / 1 s b 5 / 3 none a 4 / 3 s a 5 / 4 none b 2 / 4 s b 3")

    def test_errors_of_late(self):
        for value in of_every_kind():
            if not isinstance(value, World):
                self.fails(BadWorld("world"), late, value, value, value)
            if not isinstance(value, Blur):
                self.fails(BadBlur("blur"), late, DRIFT, value, value)
            if value != "x":
                self.fails(BadBlur("blank"), late, DRIFT, Blur({"odd": "o"}), value)
        self.fails(NoLabel("l"), late, DRIFT, Blur({"odd": "o"}))
        self.fails(NoLabel("r"), late, DRIFT, Blur({"l": "o", "x": "o"}))
        self.fails(BadBlur("blank"), late, DRIFT, Blur({"x": "a.b.c.d.e.f"}), "a.b.c.d.e.f")

    def test_names(self):
        six = "a.b.c.d.e.f"
        self.fails(TooMany("stems", 6), late, World(["d"], [(six, "l", [[six]])], [six]), Blur({"l": "o"}))
        self.fails(TooMany("stems", 6), late, World(["d"], [("s", six, [["s"]])], ["s"]), Blur({six: "o"}))
        self.fails(TooMany("stems", 6), late, DRIFT, DIM, six)
        fine = late(World(["d"], [(six[:9], six[:9], [[six[:9]]])], [six[:9]]), Blur({six[:9]: "o"}))
        self.assertEqual(fine.world.states, ("a.b.c.d.e.none", "a.b.c.d.e.o"))
        # A state that does not come about is not made, and so is no name of it.
        self.assertEqual(len(late(World(["d"], [("s", "l", [["s"]]), (six, "l", [["s"]])], ["s"]), Blur({"l": "o"})).world), 2)
        # s.a.b is made of s and a.b, and of s.a and b.
        world = World(["d"], [("s", "l", [["s", "s.a"]]), ("s.a", "m", [["s", "s.a"]])], ["s"])
        self.fails(Twice("s.a.b"), late, world, Blur({"l": "b", "m": "a.b"}))
        # The first one in the order of the states, not of the names.
        rows = [("z", "l", [["z", "z.a", "y", "y.a"]]), ("z.a", "m", [["z", "z.a", "y", "y.a"]]), ("y.a", "m", [["z"]]), ("y", "l", [["z"]])]
        self.fails(Twice("z.a.b"), late, World(["d"], rows, ["z"]), Blur({"l": "b", "m": "a.b"}))
        self.fails(Twice("y.a.b"), late, World(["d"], rows[2:] + rows[:2], ["z"]), Blur({"l": "b", "m": "a.b"}))
        labels = World(["d"], [("s", "l", [["s", "t"]]), ("t", "l.a", [["s", "t"]])], ["s"])
        self.fails(Twice("l.a.b"), late, labels, Blur({"l": "b", "l.a": "a.b"}))
        # States are made ahead of labels.
        both_twice = World(["d"], [("s", "z", [["s", "s.a"]]), ("s.a", "z.a", [["s", "s.a"]])], ["s"])
        self.fails(Twice("s.a.b"), late, both_twice, Blur({"z": "b", "z.a": "a.b"}))
        self.fails(Twice("s.a.b"), late, World(["d"], [("s", six, [["s", "s.a"]]), ("s.a", "m", [["s", "s.a"]])], ["s"]),
                   Blur({six: "b", "m": "a.b"}))

    def test_many_states(self):
        def ring(many):
            states = names("s", many)
            return World(["d"], [(state, "l", [[after]]) for state, after in zip(states, states[1:] + states[:1])], ["s0"])
        self.assertEqual(len(late(ring(199), Blur({"l": "o"})).world), 200)
        self.fails(TooMany("states", 200), late, ring(200), Blur({"l": "o"}))
        wide = World(["d"], [(state, state, [names("s", 15)]) for state in names("s", 15)], ["s0"])
        self.fails(TooMany("states", 200), late, wide, Blur.apart(names("s", 15)))
        self.assertEqual(len(late(World(["d"], [(state, state, [names("s", 14)]) for state in names("s", 14)], ["s0"]),
                                  Blur.apart(names("s", 14))).world), 197)
        full = World(names("d", 2), [(state, state, [names("s", 200)] * 2) for state in names("s", 200)], ["s0"])
        self.fails(TooMany("states", 200), late, full, Blur.apart(names("s", 200)))

    def test_errors_of_in_time(self):
        for value in of_every_kind():
            self.fails(BadTable("table"), in_time, value, value, value)
            if value != ["x"] and value != ["a"]:
                self.fails(BadBlur("sights"), in_time, LATE_TABLE, value, value)
            if value != "x":
                self.fails(BadBlur("blank"), in_time, LATE_TABLE, ["odd"], value)
        self.fails(BadBlur("sights"), in_time, LATE_TABLE, ["s", "s"])
        self.fails(BadBlur("blank"), in_time, LATE_TABLE, ["s", "none"])
        self.fails(BadBlur("blank"), in_time, LATE_TABLE, ["s", "f"], "f")
        self.fails(BadTable("entries"), in_time, LATE_TABLE, ["q"], "odd")
        self.fails(BadTable("entries"), in_time, Table(2, [(2, "none", "a", 1)]), ["s"])
        blind = Table.blind(["s"], ["a"] * 199)
        self.assertEqual(in_time(blind, ["s"]).pages, 200)
        self.fails(TooMany("pages", 200), in_time, Table.blind(["s"], ["a"] * 200), ["s"])
        self.fails(BadTable("entries"), in_time, Table.blind(["s"], ["a"] * 200), ["q"])
        many = names("s", 50)
        self.fails(TooMany("entries", 2000), in_time, Table(1, [(1, sight, "a", 1) for sight in many]), many)
        self.fails(TooMany("pages", 200), in_time, Table(5, [(1, sight, "a", 1) for sight in many]), many)


class Carried(Case):

    def test_made_task(self):
        made = late(DRIFT, DIM)
        watch = never(DRIFT.labels, DRIFT.deeds, ["x"])
        self.assertEqual(made_task(made, watch), Task(made.world, made.blur, watch.carried(made.labels)))
        self.assertEqual(made_task(made, watch, [("x.u", "w0")]), Task(made.world, made.blur, watch.carried(made.labels), [("x.u", "w0")]))
        self.assertEqual(made_task(made, watch, standing=None).standing, (("p.none", "w0"), ("q.none", "w0")))
        wide = anything(["q", "x", "l", "r"], ["right", "left"])
        self.assertEqual(made_task(made, wide).watch.labels, tuple(sorted(made.labels)))

    def test_errors(self):
        made, watch = late(DRIFT, DIM), never(DRIFT.labels, DRIFT.deeds, ["x"])
        bare = beside(COIN, COIN)[0]
        for value in of_every_kind():
            self.fails(BadWorld("made"), made_task, value, value, value)
            if not isinstance(value, Watch):
                self.fails(BadWatch("watch"), made_task, made, value, value)
            if value is not None:
                self.fails(BadStanding("standing"), made_task, made, watch, value)
        self.fails(BadWorld("made"), made_task, bare, watch)
        self.fails(BadWorld("made"), made_task, Made(DRIFT, None, {"l": "l", "r": "r", "x": "x"}, {"left": "left", "right": "right"}), watch)
        self.fails(BadWatch("labels"), made_task, made, never(["l", "r"], DRIFT.deeds, ["l"]), "standing")
        self.fails(Unlike("deeds"), made_task, made, never(DRIFT.labels, ["left"], ["x"]))
        self.fails(BadStanding("standing"), made_task, made, never(DRIFT.labels, ["left"], ["x"]), [("p", "w0")])

    def test_promises_about_two_worlds(self):
        # Both promises are carried to the world in which the two stand side by side.
        first, second = beside(COIN, DRIFT)
        made = Made(first.world, Blur.apart(first.world.labels), first.labels, first.deeds)
        watch = never(["r"], ["a", "b"], ["r"]).carried(None, made.deeds)
        self.assertEqual(made_task(made, watch).watch, watch.carried(made.labels))
        self.assertEqual(judge(made_task(made, watch)).number, 1)
        calm = both(anything(["r"], ["a", "b"]), anything(["r"], ["a", "b"])).carried(None, made.deeds)
        self.assertEqual(first_kept(made_task(made, calm), 1).pages, 1)
        self.assertEqual(ends_by_hand(made_task(made, calm), {(1, sight): (made.world.deeds[0], 1) for sight in made.blur.sights}),
                         (None, None))
        self.assertEqual(len(second.labels), 3)
