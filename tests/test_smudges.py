from common import Case, chances, names, of_every_kind, random_task
from smudge_hands import cases_by_hand, random_smudges, slips_by_hand
from table_hands import cells_of, chosen, random_table, small_task

from dimkeeper.blurs import Blur
from dimkeeper.closed import holds
from dimkeeper.errors import BadSmudges, BadTable, BadTask, BadText, Unlike
from dimkeeper.keepers import kept_tables
from dimkeeper.papers import Denial, Paper
from dimkeeper.smudges import Slips, Smudges, Stays, holds_smudged
from dimkeeper.tables import Table
from dimkeeper.tasks import Task
from dimkeeper.watches import Watch
from dimkeeper.worlds import World

COIN = World(("a", "b"), [("o", "r", (("o",), ("o",)))], ("o",))
ONCE = Watch.read("r ; a b ; x y x1 y1 ; y x1 / y1 x / y1 broken / broken x1")
COIN_ONCE, PAIR = Task(COIN, Blur.apart(["r"]), ONCE), Table.blind(["r"], ["a", "b"])


class SmudgesThemselves(Case):

    def test_attributes(self):
        labels = ["z", "a"]
        smudges = Smudges(3, labels)
        labels.clear()
        self.assertEqual((smudges.many, smudges.labels), (3, ("a", "z")))
        self.assertEqual((Smudges(None).many, Smudges(None).labels), (None, None))
        self.assertEqual((Smudges(0, ()).labels, Smudges(20, []).labels), ((), ()))
        self.assertEqual(Smudges(labels=("a", "z"), many=3), smudges)

    def test_equality(self):
        self.same([Smudges(0), Smudges(1), Smudges(None), Smudges(1, []), Smudges(1, ["a"]), Smudges(1, ["a", "b"]), Smudges(None, ["a"])])
        self.assertEqual(Smudges(2, ["b", "a"]), Smudges(2, ("a", "b")))

    def test_texts(self):
        for smudges, text in [(Smudges(0), "0"), (Smudges(None), "any"), (Smudges(20), "20"), (Smudges(2, []), "2 at"),
                              (Smudges(None, ["b", "a.c"]), "any at a.c b"), (Smudges(1, ["at", "any"]), "1 at any at")]:
            self.assertEqual(str(smudges), text)
            self.reads(Smudges, smudges)
            self.bends(Smudges, text)
            for value in of_every_kind():
                if not isinstance(value, str):
                    self.fails(BadText(0, 0), Smudges.read, value)
        self.reads(Smudges, Smudges(5, names("l", 300)))

    def test_wrong_texts(self):
        for text, word in [("", 0), (" ", 0), (" 1", 0), ("1 ", 1), ("21", 0), ("01", 0), ("+1", 0), ("-1", 0), ("1234567890", 0), ("all", 0),
                           ("1 a", 1), ("1 at ", 2), ("1 at b a", 3), ("1 at a a", 3), ("any at A", 2), ("any any", 1), ("at a", 0), ("None", 0),
                           ("1  at", 1), ("1 at a  b", 3), ("20 at a /", 3)]:
            self.fails(BadText(0, word), Smudges.read, text)

    def test_errors(self):
        for value in of_every_kind():
            if value is not None and (type(value) is not int or not 0 <= value <= 20):
                self.fails(BadSmudges("many"), Smudges, value, value)
            fine = value is None or value in ([], ()) or value in (["x"], ["a"])
            if not fine:
                self.fails(BadSmudges("labels"), Smudges, 1, value)
        for many in (-1, 21, True, "1", 1.0):
            self.fails(BadSmudges("many"), Smudges, many)
            self.fails(BadSmudges("many"), Smudges, many, "labels")
        for labels in ("a", {}, set(), {"a"}, ["a", "a"], ["A"], [None], ["a.b.c.d.e.f.g"]):
            self.fails(BadSmudges("labels"), Smudges, None, labels)


class HoldsSmudged(Case):

    def test_example(self):
        self.assertEqual(holds_smudged(COIN_ONCE, PAIR, Smudges(2)), Slips("x", ["o", "o", "o"], [1, 1, 1]))

    def test_papers(self):
        paper = Stays([["o", 1, "x", None]])
        self.assertEqual((paper.word, paper.parts, bool(paper), isinstance(paper, Denial), isinstance(paper, Paper)),
                         ("stays", ((("o", 1, "x", None),),), True, False, True))
        self.assertEqual((paper.cases, Stays(cases=(("o", 1, "x", None),))), ((("o", 1, "x", None),), paper))
        other = Slips("x", ["o"], [1])
        self.assertEqual((other.word, other.parts, bool(other), isinstance(other, Denial)), ("slips", ("x", ("o",), (1,)), False, True))
        self.assertEqual((other.first, other.states, other.pages), other.parts)
        self.assertEqual(Slips(pages=(1,), states=("o",), first="x"), other)
        self.same([paper, Stays([]), other, Slips("y", ["o"], [1]), Slips("x", ["o"], [2]), Paper("stays", *paper.parts)])

    def test_by_hand(self):
        seen = set()
        for chance in chances(400):
            task = random_task(chance, most_states=4)
            table = random_table(chance, task, 3, 0.03)
            table = chosen(chance, task, table) if chance.random() < 0.7 else table
            smudges = random_smudges(chance, task)
            cells = cells_of(table)
            cases, moment = cases_by_hand(task, cells, table.pages, smudges)
            paper = holds_smudged(task, table, smudges)
            self.assertEqual(holds_smudged(task, table, smudges), paper)
            if moment is None:
                self.assertEqual(paper, Stays(cases))
            else:
                self.assertIsInstance(paper, Slips)
                self.assertEqual(len(paper.states), moment + 1)
                self.assertTrue(slips_by_hand(task, cells, table.pages, smudges, paper))
            seen.add((moment is None, smudges.many, table.pages > 1))
        self.assertTrue({(fine, many, True) for fine in (True, False) for many in (0, 1, 2, None)} <= seen, seen)

    def test_pages_that_are_not_needed(self):
        # Another page of the notebook may lie open, needed or not: there the cell lacks an entry.
        told, wide = Table(1, [(1, "r", "a", 1)]), Table(2, [(1, "r", "a", 1)])
        calm = COIN_ONCE.changed(watch=Watch.read("r ; a b ; x ; x x"))
        self.assertEqual(holds_smudged(calm, told, Smudges(None)), Stays([("o", 1, "x", None)]))
        self.assertEqual(holds_smudged(calm, wide, Smudges(1)), Slips("x", ["o", "o"], [1, 2]))
        self.assertEqual(holds_smudged(calm, wide, Smudges(0)), Stays([("o", 1, "x", 0)]))
        self.assertEqual(holds_smudged(calm, wide, Smudges(5, ["odd"])), Stays([("o", 1, "x", 5)]))

    def test_labels_are_those_of_the_moment_ahead(self):
        # A smudge comes behind the deed of a moment: the state of this moment has the label.
        world = World(["d"], [("s", "l", [["t"]]), ("t", "m", [["t"]])], ["s"])
        task = Task(world, Blur.apart(["l", "m"]), Watch(["l", "m"], ["d"], [("w", [["w"], ["w"]])]))
        table = Table(2, [(1, "l", "d", 1), (1, "m", "d", 1), (2, "l", "d", 1)])
        self.assertEqual(holds_smudged(task, table, Smudges(1, ["l"])), Slips("w", ["s", "t"], [1, 2]))
        self.assertEqual(holds_smudged(task, table, Smudges(1, ["m"])), Slips("w", ["s", "t", "t"], [1, 1, 2]))
        self.assertTrue(holds_smudged(task, table, Smudges(1, [])))
        more = Table(2, table.entries + ((2, "m", "d", 2),))
        self.assertEqual(holds_smudged(task, more, Smudges(1, ["l"])),
                         Stays([("s", 1, "w", 1), ("t", 1, "w", 1), ("t", 2, "w", 0)]))

    def test_the_order_of_cases(self):
        world = World(["d"], [("s", "l", [["s", "t"]]), ("t", "l", [["s"]])], ["t"])
        task = Task(world, Blur.apart(["l"]), Watch(["l"], ["d"], [("w", [["w"]])]))
        table = Table(3, [(1, "l", "d", 2), (2, "l", "d", 2), (3, "l", "d", 3)])
        self.assertEqual(holds_smudged(task, table, Smudges(1)).cases,
                         (("t", 1, "w", 1), ("s", 2, "w", 1), ("s", 1, "w", 0), ("s", 3, "w", 0), ("t", 2, "w", 1),
                          ("t", 1, "w", 0), ("t", 3, "w", 0), ("s", 2, "w", 0), ("t", 2, "w", 0)))

    def test_facts(self):
        seen = set()
        for chance in chances(200):
            task = small_task(chance, 2, 1500, most_states=3, most_deeds=2, most_labels=2)
            for cells in [cells_of(table) for table in list(kept_tables(task, 2))[:4]]:
                pages = max([page for page, _ in cells] + [after for _, after in cells.values()])
                rows = [(*cell, *entry) for cell, entry in cells.items()]
                table = Table(pages, rows)
                # If no smudge can come, a table stays exactly if it holds.
                self.assertTrue(holds_smudged(task, table, Smudges(0)))
                self.assertTrue(holds_smudged(task, table, Smudges(None, [])))
                self.assertTrue(holds_smudged(task, table, Smudges(3, ["odd"])))
                smudges = random_smudges(chance, task)
                if not holds_smudged(task, table, smudges):
                    seen.add("slips")
                    continue
                # What stays under some stays under fewer, at fewer labels, and with one page more, a copy of page 1.
                for many in (0, 1, 2):
                    if smudges.many is None or many <= smudges.many:
                        self.assertTrue(holds_smudged(task, table, Smudges(many, smudges.labels)))
                        self.assertTrue(holds_smudged(task, table, Smudges(many, (smudges.labels or ())[:1])))
                copy = [(pages + 1, sight, deed, after) for page, sight, deed, after in rows if page == 1]
                self.assertTrue(holds_smudged(task, Table(pages + 1, rows + copy), smudges))
                if smudges.many is None and smudges.labels is None:
                    alone = [(1, sight, deed, 1) for page, sight, deed, _ in rows if page == 1]
                    self.assertTrue(holds(task, Table(1, alone)))
                    seen.add(pages > 1)
                seen.add(("stays", pages > 1))
            table = random_table(chance, task, 2, 0)
            self.assertEqual(bool(holds_smudged(task, table, Smudges(0))), bool(holds(task, table)))
        self.assertTrue({"slips", False, ("stays", True), ("stays", False)} <= seen, seen)

    def test_errors(self):
        odd = Table(2, [(1, "r", "a", 2), (2, "odd", "c", 1)])
        for value in of_every_kind():
            self.fails(BadTask("task"), holds_smudged, value, value, value)
            self.fails(BadTable("table"), holds_smudged, COIN_ONCE, value, value)
            self.fails(BadSmudges("smudges"), holds_smudged, COIN_ONCE, odd, value)
        self.fails(Unlike("deeds"), holds_smudged, COIN_ONCE, odd, Smudges(0))
        self.assertEqual(holds_smudged(COIN_ONCE, Table(2, [(2, "r", "a", 2)]), Smudges(0)), Slips("x", ["o"], [1]))
