import itertools

from common import Case, chances, names, of_every_kind, random_world
from test_among import GARDEN, STILL, TWICE, random_pair, set_world

from dimkeeper.among import rows_among
from dimkeeper.blurs import Blur
from dimkeeper.closed import holds
from dimkeeper.errors import BadBlur, BadRow, BadTable, BadWatch, BadWorld, NoDeed, NoLabel, TooMany, Unlike
from dimkeeper.forced import judge
from dimkeeper.partings import parting_promise, parting_table, turned
from dimkeeper.rows import gives
from dimkeeper.tables import Table
from dimkeeper.tasks import Task
from dimkeeper.watches import Watch
from dimkeeper.worlds import World


def broken_by_hand(row, reading):
    """At which moment a reading breaks the parting promise, by its words."""
    last = len(row) // 2
    for at, (label, deed) in enumerate(reading):
        if label != row[2 * at]:
            return None
        if at == last or deed != row[2 * at + 1]:
            return at
    return None


class Partings(Case):

    def test_example(self):
        self.assertEqual(str(parting_promise(("f", "left", "l"), ["f", "l"], ["left", "right"])),
                         "f l ; left right ; w0 w1 w2 ; w1 broken , w2 w2 / w2 w2 , broken broken / w2 w2 , w2 w2")
        lost, kept, table = turned(GARDEN.begun("fa"), GARDEN.begun("fb"), Blur.alike(GARDEN.labels))
        self.assertEqual([judge(lost).number, bool(holds(kept, table)), bool(holds(lost, table)), str(table)],
                         [2, True, False, "1 : 1 dark left 1"])

    def test_promises_by_hand(self):
        for row in (["l"], ["l", "a", "m"], ("m", "b", "m"), ["l", "a", "l", "a", "l"], ("l", "b", "m", "a", "l", "b", "m")):
            for labels in (["l", "m"], ["m", "n", "l"]):
                watch = parting_promise(row, labels, ["a", "b"])
                self.assertEqual((watch.labels, watch.deeds), (tuple(labels), ("a", "b")))
                self.assertEqual(watch.reached(), watch.states)
                self.assertEqual(list(watch.states), names("w", len(row) // 2 + 2))
                signs = [(label, deed) for label in labels for deed in "ab"]
                for many in range(1, 4 if len(labels) == 3 else 5):
                    for reading in itertools.product(signs, repeat=many):
                        self.assertEqual(watch.broken_at(list(reading)), broken_by_hand(row, reading))

    def test_texts_of_promises(self):
        self.assertEqual(str(parting_promise(["l"], ["l"], ["a", "b"])), "l ; a b ; w0 ; broken broken")
        self.assertEqual(str(parting_promise(["l"], ["m", "l"], ["a"])), "m l ; a ; w0 w1 ; w1 , broken / w1 , w1")
        self.assertEqual(str(parting_promise(("l", "b", "l"), ["l"], ["a", "b"])), "l ; a b ; w0 w1 ; broken w1 / broken broken")

    def test_tables(self):
        self.assertEqual(parting_table(["l"], ["b", "a"], ["x", "y"]), Table.blind(["x", "y"], ["b"]))
        self.assertEqual(parting_table(("l", "a", "m", "a", "l", "b", "z"), ("b", "a"), ("x", "y")),
                         Table.blind(["x", "y"], ["a", "a", "b"]))
        self.assertEqual(str(parting_table(["l", "a", "m"], ["b", "b", "a"], ["x"])), "1 : 1 x a 1")

    def test_turned_by_hand(self):
        seen = {}
        for chance in chances(200):
            one, other = random_pair(chance)
            labels = sorted({*one.labels, *other.labels, "more"})
            blur = Blur({label: chance.choice(["x", "y"]) for label in labels})
            paper = rows_among(one, other)
            told = turned(one, other, blur)
            if paper:
                self.assertIsNone(told)
                seen[None] = True
                continue
            watch = parting_promise(paper.row, blur.labels, one.deeds)
            self.assertEqual(told, (Task(one, blur, watch), Task(other, blur, watch),
                                    parting_table(paper.row, one.deeds, blur.sights)))
            self.assertIsInstance(told, tuple)
            many = len(paper.row) // 2
            self.assertEqual(judge(told[0]).number, many + 1)
            self.assertTrue(holds(told[1], told[2]))
            self.assertFalse(holds(told[0], told[2]))
            self.assertEqual(told[2].pages, max(1, many))
            seen[many] = True
        self.assertTrue({None, 0, 1, 2} <= set(seen), seen)

    def test_rows_that_a_world_gives_or_not(self):
        seen = set()
        for chance in chances(100):
            world = random_world(chance, 3, 2, 2)
            many = chance.randint(0, 2)
            row = [chance.choice(["l0", "l1", "l2"])]
            for _ in range(many):
                row += [chance.choice(world.deeds), chance.choice(["l0", "l1"])]
            labels = ["l0", "l1", "l2"]
            task = Task(world, Blur({label: chance.choice("xy") for label in labels}), parting_promise(row, labels, world.deeds))
            if gives(world, row):
                self.assertEqual(judge(task).number, many + 1)
            else:
                self.assertTrue(holds(task, parting_table(row, world.deeds, task.blur.sights)))
            seen.add((gives(world, row), many))
        self.assertEqual(len(seen), 6)

    def test_sizes(self):
        row = ["l"] + ["a", "l"] * 199
        self.assertEqual(len(parting_promise(row, ["l"], ["a"])), 200)
        self.fails(TooMany("states", 200), parting_promise, row, ["l", "m"], ["a"])
        self.assertEqual(len(parting_promise(row[:-2], ["l", "m"], ["a"])), 200)
        self.fails(TooMany("states", 200), parting_promise, row + ["a", "l"], ["l"], ["a"])
        self.assertEqual(parting_table(row + ["a", "l"], ["a"], ["x"]).pages, 200)
        self.fails(TooMany("pages", 200), parting_table, row + ["a", "l"] * 2, ["a"], ["x"])
        self.assertEqual(len(parting_table(["l"] + ["a", "l"] * 20, ["a"], names("s", 100))), 2000)
        self.fails(TooMany("entries", 2000), parting_table, ["l"] + ["a", "l"] * 21, ["a"], names("s", 100))
        self.fails(TooMany("labels", 200), parting_promise, ["l0"] * 3, names("l", 201), ["l0"])
        self.fails(TooMany("deeds", 12), parting_promise, ["l0"], ["l0"], names("d", 13))
        rings = [World(["d"], [(f"s{at}", "m" if at == many - 1 else "l", [[f"s{(at + 1) % many}"]]) for at in range(many)],
                       ["s0"]) for many in (14, 15, 199, 200)]
        lost, kept, table = turned(rings[0], rings[1], Blur.apart(["l", "m"]))
        self.assertEqual((judge(lost).number, table.pages, bool(holds(kept, table))), (14, 13, True))
        self.assertEqual(turned(rings[2], rings[3], Blur.apart(["l", "m"]))[2].pages, 198)
        # Other worlds part later than a watch can follow.
        late = World(["d"], [(f"s{at}", "m" if at in (0, 1) else "l", [[f"s{min(at + 1, 199)}"]]) for at in range(200)], ["s0"])
        self.assertEqual(len(rows_among(late, rings[3].begun("s199")).row), 3)

    def test_worlds_that_part_late(self):
        # Behind a tail of 199 states one shows l again, the other one m.
        tail = [(f"s{at}", "l", [[f"s{at + 1}"]]) for at in range(199)]
        one, other = [World(["d"], tail + [("s199", label, [["s199"]])], ["s0"]) for label in "lm"]
        self.fails(TooMany("states", 200), turned, one, other, Blur.apart(["l", "m"]))
        self.assertEqual(turned(one.begun("s1"), other.begun("s1"), Blur.apart(["l", "m"]))[2].pages, 198)

    def test_errors(self):
        for value in of_every_kind():
            if value not in ("x", ):
                self.fails(BadRow("row"), parting_promise, value, value, value)
                self.fails(BadRow("row"), parting_table, value, value, value)
            if not (isinstance(value, str) and value == "x"):
                self.fails(BadRow("row"), parting_promise, ["l", "a", value], value, value)
            self.fails(BadWatch("labels"), parting_promise, ["l"], value, value)
            self.fails(BadWatch("deeds"), parting_promise, ["q"], ["l"], value)
            if value != ["a", "a"]:
                self.fails(BadTable("deeds"), parting_table, ["l"], value, value)
            self.fails(BadTable("sights"), parting_table, ["l", "q", "l"], ["a"], value)
            if not isinstance(value, World):
                self.fails(BadWorld("one"), turned, value, value, value)
                self.fails(BadWorld("other"), turned, STILL, value, value)
            if not isinstance(value, Blur):
                self.fails(BadBlur("blur"), turned, STILL, World.read("d ; s z ; s ; s"), value)
        self.fails(BadRow("row"), parting_promise, ["l", "a"], ["l"], ["a"])
        self.fails(BadRow("row"), parting_promise, "l", ["l"], ["a"])
        self.fails(NoLabel("m"), parting_promise, ["l", "a", "m", "b", "l"], ["l"], ["a"])
        self.fails(NoDeed("b"), parting_promise, ["l", "b", "m"], ["l"], ["a"])
        self.fails(NoLabel("a"), parting_promise, ["a", "b", "m"], ["l"], ["a"])
        self.fails(NoLabel("m"), parting_promise, ["m"], names("l", 201), names("d", 13))
        self.fails(NoDeed("b"), parting_table, ["l", "a", "m", "b", "l", "c", "l"], ["a"], ["x"])
        self.fails(NoDeed("b"), parting_table, ["l"] + ["a", "l"] * 300 + ["b", "l"], ["a"], ["x"])
        self.fails(BadTable("deeds"), parting_table, ["l"], [], [])
        self.fails(BadTable("sights"), parting_table, ["l"], ["a"], ["x", "x"])
        self.fails(Unlike("deeds"), turned, STILL, World.read("d ; s z ; s ; s"), Blur.alike(["q"]))
        self.fails(NoLabel("r"), turned, GARDEN, STILL, Blur.alike(["l"]))
        self.fails(NoLabel("r"), turned, STILL, GARDEN, Blur.alike(["l"]))
        self.fails(NoLabel("l"), turned, STILL, GARDEN, Blur.alike(["r"]))
        # Labels of states that do not come about are asked for, too.
        more = World(STILL.deeds, [("o", "l", [["o"], ["o"]]), ("p", "z", [["o"], ["o"]])], ["o"])
        self.fails(NoLabel("z"), turned, more, STILL, Blur.alike(["l"]))
        self.fails(NoLabel("z"), turned, STILL, more, Blur.alike(["l"]))
        self.assertIsNone(turned(more, STILL, Blur.alike(["l", "z"])))
        wide = set_world(9)
        small = World(wide.deeds, [("o", "l", [["o"]] * 3)], ["o"])
        self.fails(TooMany("sets", 500), turned, small, wide, Blur.alike(["l"]))
        self.fails(NoLabel("l"), turned, small, wide, Blur.alike(["m"]))
        self.assertIsNone(turned(STILL, TWICE, Blur.alike(["l"])))
        self.assertIsInstance(parting_promise(["l"], ["l"], ["a"]), Watch)
