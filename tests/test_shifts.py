"""Several keepers with one notebook."""

from common import Case, chances, names, of_every_kind, random_watch, random_world
from table_hands import cells_of, random_table, small_task

from dimkeeper.blurs import Blur
from dimkeeper.carry import made_task
from dimkeeper.closed import holds
from dimkeeper.errors import BadRoster, BadTable, BadWorld, NoLabel, TooMany, Twice
from dimkeeper.forced import judge
from dimkeeper.keepers import count_kept, first_kept
from dimkeeper.least import least_pages
from dimkeeper.promises import done_in_turn
from dimkeeper.shifts import own_table, shared_table, shifts
from dimkeeper.tables import Table
from dimkeeper.tasks import Task, choices
from dimkeeper.worlds import World

COIN = World(("a", "b"), [("o", "r", (("o",), ("o",)))], ("o",))
PLAIN = Blur({"r": "r"})


def shifts_by_hand(world, roster, blurs):
    rows = []
    for state in world:
        for at, keeper in enumerate(roster):
            after = (at + 1) % len(roster)
            rows.append((f"{state}.t{at}", f"{world.label_of(state)}.{keeper}",
                         [[f"{one}.t{after}" for one in world.nexts(state, deed)] for deed in world.deeds]))
    shown = {f"{label}.{keeper}": f"{keeper}.{blurs[keeper].sight_of(label)}" for label in world.labels for keeper in roster}
    return World(world.deeds, rows, [f"{start}.t0" for start in world.starts]), Blur(shown)


class Shifts(Case):

    def test_example(self):
        made = shifts(COIN, ("day", "night"), {"day": PLAIN, "night": PLAIN})
        self.assertEqual([str(made.world), str(made.blur), made.labels],
                         ["a b ; o.t0 r.day o.t1 r.night ; o.t0 ; o.t1 , o.t1 / o.t0 , o.t0", "r.day day.r r.night night.r",
                          {"r.day": "r", "r.night": "r"}])

    def test_by_hand(self):
        for chance in chances(120):
            world = random_world(chance, most_states=5)
            roster = [chance.choice(["ann", "bob", "c.d"]) for _ in range(chance.randint(1, 5))]
            blurs = {keeper: Blur({label: chance.choice(["o", "p.q"]) for label in sorted(world.labels) + ["odd"]}) for keeper in roster}
            made = shifts(world, roster, blurs)
            told, blur = shifts_by_hand(world, roster, blurs)
            self.assertEqual((made.world, made.blur), (told, blur))
            self.assertEqual(made.labels, {f"{label}.{keeper}": label for label in world.labels for keeper in roster})
            self.assertEqual(list(made.labels), list(made.world.labels))
            self.assertEqual(made.deeds, {deed: deed for deed in world.deeds})
            self.assertEqual(shifts(world, tuple(roster), blurs), made)

    def test_rosters(self):
        one = shifts(COIN, ["day"], {"day": PLAIN})
        self.assertEqual(str(one.world), "a b ; o.t0 r.day ; o.t0 ; o.t0 , o.t0")
        same = shifts(COIN, ["day", "day", "day"], {"day": PLAIN})
        self.assertEqual((same.world.states, same.world.labels), (("o.t0", "o.t1", "o.t2"), ("r.day",)))
        self.assertEqual(len(shifts(COIN, ["day"] * 12, {"day": PLAIN}).world), 12)
        self.fails(TooMany("roster", 12), shifts, COIN, ["day"] * 13, {"day": PLAIN})

    def test_tables_are_shared_by_the_keepers(self):
        # What a table over the sights of all does is what each keeper's own table tells in turn.
        kinds = set()
        for chance in chances(150):
            world = random_world(chance, most_states=4, most_deeds=2)
            roster = [chance.choice(["ann", "bob"]) for _ in range(chance.randint(1, 3))]
            blurs = {keeper: Blur({label: chance.choice("op") for label in world.labels}) for keeper in roster}
            watch = random_watch(chance, sorted(world.labels), world.deeds, 3, 0.1)
            made = shifts(world, roster, blurs)
            task = made_task(made, watch)
            own = {keeper: random_table(chance, Task(world, blurs[keeper], watch), 2, 0) for keeper in blurs}
            table = shared_table(own)
            self.assertEqual(table.pages, max(one.pages for one in own.values()))
            due, seen, fine = {(start, 1, watch.first, 0) for start in world.starts}, set(), True
            while due:
                state, page, kept, at = case = due.pop()
                seen.add(case)
                entry = cells_of(own[roster[at]]).get((page, blurs[roster[at]].sight_of(world.label_of(state))))
                place = "broken" if entry is None else watch.place_of(kept, world.label_of(state), entry[0])
                if place == "broken":
                    fine = False
                    break
                due |= {(one, entry[1], place, (at + 1) % len(roster)) for one in world.nexts(state, entry[0])} - seen
            self.assertEqual(bool(holds(task, table)), fine)
            for keeper in own:
                self.assertEqual(own_table(table, keeper).entries, own[keeper].entries)
            kinds.add((fine, len(blurs)))
        self.assertEqual(kinds, {(True, 1), (False, 1), (True, 2), (False, 2)})

    def test_facts(self):
        # With one blur for all shifts never need more pages, of one keeper as many; the roster can be a clock.
        seen = set()
        for chance in chances(120):
            task = small_task(chance, 2, 1500, most_states=3, most_deeds=2, most_labels=2).changed()
            if choices(task, 2) > 1500:
                continue
            one = made_task(shifts(task.world, ["ann"], {"ann": task.blur}), task.watch)
            self.assertEqual([count_kept(one, k) for k in (1, 2)], [count_kept(task, k) for k in (1, 2)])
            self.assertEqual(judge(one).parts[0] if not judge(one) else True, judge(task).parts[0] if not judge(task) else True)
            two = made_task(shifts(task.world, ["ann", "bob"], {"ann": task.blur, "bob": task.blur}), task.watch)
            for k in (1, 2):
                if choices(two, k) <= 20000 and first_kept(task, k) is not None:
                    self.assertIsNotNone(first_kept(two, k))
                    seen.add(k)
        self.assertEqual(seen, {1, 2})
        turns = done_in_turn(["r"], ["a", "b"], ["a", "b"])
        clock = made_task(shifts(COIN, ["ann", "bob"], {"ann": PLAIN, "bob": PLAIN}), turns)
        self.assertEqual((least_pages(Task(COIN, PLAIN, turns)).number, least_pages(clock).number), (2, 1))

    def test_errors(self):
        blurs = {"day": PLAIN}
        for value in of_every_kind():
            if not isinstance(value, World):
                self.fails(BadWorld("world"), shifts, value, value, value)
            if value not in (["x"], ["a"], ["a", "a"]):
                self.fails(BadRoster("roster"), shifts, COIN, value, value)
            self.fails(BadRoster("blurs"), shifts, COIN, ["day"], value)
            if not isinstance(value, Blur):
                self.fails(BadRoster("blurs"), shifts, COIN, ["day"], {"day": value})
        for roster in ("day", ["Day"], ["day", 1], [], {"day"}, ["day", None]):
            self.fails(BadRoster("roster"), shifts, COIN, roster, None)
        for told in ({}, {"day": PLAIN, "night": PLAIN}, {"night": PLAIN}, [("day", PLAIN)], {"day": "r r"}, {"day": PLAIN, 1: PLAIN}):
            self.fails(BadRoster("blurs"), shifts, COIN, ["day"] * 13, told)
        self.fails(BadRoster("blurs"), shifts, COIN, ["day", "night"], blurs)
        two = World(["d"], [("s", "l", [["s"]]), ("t", "m", [["s"]])], ["s"])
        self.fails(NoLabel("l"), shifts, two, ["b", "a"], {"a": Blur({"l": "l"}), "b": Blur({"m": "m"})})
        self.fails(NoLabel("m"), shifts, two, ["a", "b"], {"a": Blur({"l": "l"}), "b": Blur({"m": "m"})})
        self.fails(NoLabel("m"), shifts, two, ["a"] * 13, {"a": Blur({"l": "l"})})
        self.fails(NoLabel("l"), shifts, two, ["b", "c", "a"], {"a": Blur({"x": "l"}), "b": Blur({"m": "m", "l": "l"}), "c": Blur({"m": "m"})})

    def test_names(self):
        six = "a.b.c.d.e.f"
        self.fails(TooMany("roster", 12), shifts, World(["d"], [(six, "l", [[six]])], [six]), ["k"] * 13, {"k": Blur({"l": "o"})})
        self.fails(TooMany("stems", 6), shifts, World(["d"], [(six, "l", [[six]])], [six]), ["k"], {"k": Blur({"l": "o"})})
        self.fails(TooMany("stems", 6), shifts, World(["d"], [("s", six, [["s"]])], ["s"]), ["k"], {"k": Blur({six: "o"})})
        self.fails(TooMany("stems", 6), shifts, World(["d"], [("s", "l", [["s"]])], ["s"]), ["k"], {"k": Blur({"l": six})})
        self.fails(TooMany("stems", 6), shifts, World(["d"], [("s", "l", [["s"]])], ["s"]), [six], {six: Blur({"l": "o"})})
        self.assertEqual(len(shifts(World(["d"], [(six[:9], six[:9], [[six[:9]]])], [six[:9]]), ["k"], {"k": Blur({six[:9]: six[:9]})}).world), 1)
        # Only what is shown is a sight of the made blur: what other labels would show makes no names.
        fine = shifts(World(["d"], [("s", "l", [["s"]])], ["s"]), ["k"], {"k": Blur({"l": "o", "odd": six})})
        self.assertEqual(fine.blur.sights, ("k.o",))
        # s.t0.t1 cannot be made twice, for the index stands alone: labels and sights can.
        two = World(["d"], [("s", "l", [["s"]]), ("t", "l.a", [["t"]])], ["s"])
        self.fails(Twice("l.a.b"), shifts, two, ["b", "a.b"], {"b": Blur({"l": "o", "l.a": "o"}), "a.b": Blur({"l": "o", "l.a": "o"})})
        one = World(["d"], [("s", "l", [["s"]]), ("t", "m", [["t"]])], ["s"])
        self.fails(Twice("a.b.c"), shifts, one, ["a", "a.b"], {"a": Blur({"l": "b.c", "m": "o"}), "a.b": Blur({"l": "c", "m": "o"})})
        # Of two sights that are made twice the first one ascending.
        more = {"z": Blur({"l": "b.c", "m": "o"}), "z.b": Blur({"l": "c", "m": "o"}),
                "a": Blur({"l": "o", "m": "b.c"}), "a.b": Blur({"l": "o", "m": "c"})}
        self.fails(Twice("a.b.c"), shifts, one, ["z", "z.b", "a", "a.b"], more)
        same = {"a": Blur({"l": "z.d", "m": "z.c"}), "a.z": Blur({"l": "d", "m": "c"})}
        self.fails(Twice("a.z.c"), shifts, one, ["a", "a.z"], same)
        labels = World(["d"], [("s", "z", [["s"]]), ("t", "z.a", [["t"]]), ("u", "l", [["s"]]), ("v", "l.a", [["s"]])], ["s"])
        every = Blur.alike(labels.labels)
        # The first label in the order of the states.
        self.fails(Twice("z.a.b"), shifts, labels, ["b", "a.b"], {"b": every, "a.b": every})

    def test_many_states(self):
        def row(many):
            return World(["d"], [(state, "l", [[state]]) for state in names("s", many)], ["s0"])
        blurs = {"k": Blur({"l": "o"})}
        self.assertEqual(len(shifts(row(100), ["k", "k"], blurs).world), 200)
        self.fails(TooMany("states", 200), shifts, row(101), ["k", "k"], blurs)
        self.fails(TooMany("states", 200), shifts, row(200), ["k"] * 12, blurs)
        self.fails(TooMany("stems", 6), shifts, row(101), ["k", "k"], {"k": Blur({"l": "a.b.c.d.e.f"})})

    def test_own_tables(self):
        table = Table(3, [(1, "day.o", "a", 2), (2, "day.o.p", "b", 1), (3, "night.o", "a", 1), (1, "day", "b", 1), (2, "days.o", "a", 1),
                          (2, "day.n.o", "a", 3)])
        self.assertEqual(own_table(table, "day"), Table(3, [(1, "o", "a", 2), (2, "o.p", "b", 1), (2, "n.o", "a", 3)]))
        self.assertEqual(own_table(table, "day.n"), Table(3, [(2, "o", "a", 3)]))
        self.assertEqual(own_table(table, "night").pages, 3)
        for keeper in ("nigh", "o", "day.o.p", "n"):
            self.fails(BadTable("entries"), own_table, table, keeper)
        for value in of_every_kind():
            self.fails(BadTable("table"), own_table, value, value)
            if value != "x":
                self.fails(BadRoster("keeper"), own_table, table, value)

    def test_shared_tables(self):
        one, other = Table(2, [(1, "o", "a", 2), (2, "p.q", "b", 1)]), Table(3, [(3, "o", "b", 3)])
        self.assertEqual(shared_table({"ann": one, "b.c": other}),
                         Table(3, [(1, "ann.o", "a", 2), (2, "ann.p.q", "b", 1), (3, "b.c.o", "b", 3)]))
        self.assertEqual(shared_table({"ann": one}), one.carried({"ann.o": "o", "ann.p.q": "p.q"}))
        for value in of_every_kind():
            self.fails(BadRoster("tables"), shared_table, value)
            if not isinstance(value, Table):
                self.fails(BadRoster("tables"), shared_table, {"ann": value})
        for told in ({}, {"Ann": one}, {1: one}, {"ann": one, None: other}, [("ann", one)], {"ann": one, "bob": "table"}):
            self.fails(BadRoster("tables"), shared_table, told)
        self.fails(TooMany("stems", 6), shared_table, {"a.b": Table(1, [(1, "a.b.c.d.e", "d", 1)])})
        twice = {"z": Table(1, [(1, "b.c", "d", 1)]), "z.b": Table(2, [(2, "c", "d", 1)]),
                 "a": Table(1, [(1, "b.c", "d", 1)]), "a.b": Table(2, [(2, "c", "d", 1)])}
        self.fails(Twice("a.b.c"), shared_table, twice)
        # Stems are asked ahead of names made twice.
        self.fails(TooMany("stems", 6), shared_table, {**twice, "k": Table(1, [(1, "a.b.c.d.e.f", "d", 1)])})
        many = {f"k{at}": Table(200, [(page, f"o{one}", "d", 1) for page in range(1, 201) for one in range(5)]) for at in range(3)}
        self.fails(TooMany("entries", 2000), shared_table, many)
        self.assertEqual(len(shared_table({"k0": many["k0"], "k1": many["k1"]})), 2000)
