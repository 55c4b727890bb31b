from common import Case, chances, of_every_kind, random_task
from table_hands import cells_of, chosen, entry_of, layers_by_hand, random_table
from test_check_closed import broken_is_right, lacks_is_right
from test_check_trees import R1, refused_tasks
from test_keepers import BY_TURNS
from test_plays import FLAT, SEEN, TABLE, TASK

from dimkeeper.blurs import Blur
from dimkeeper.check_closed import shows_holds
from dimkeeper.closed import Broken, Lacks, holds
from dimkeeper.cut import cut
from dimkeeper.errors import BadPaper, BadTable, BadTask, Unlike
from dimkeeper.losing import Losing, beaten, losing
from dimkeeper.papers import Denial, Paper
from dimkeeper.plays import Play
from dimkeeper.refuse import Refusal, refusal
from dimkeeper.tables import Table
from dimkeeper.tasks import Task
from dimkeeper.trees import Leaf, Need
from dimkeeper.watches import Watch


def beaten_by_hand(task, tree, table):
    """By the words of the document."""
    names = {1: 1}
    while not isinstance(tree, Leaf):
        page = next(own for own, told in names.items() if told == tree.page)
        entry = cells_of(table).get((page, tree.sight))
        if entry is None:
            tree = tree.parts[0][0]
            continue
        names.setdefault(entry[1], len(names) + 1)
        tree = tree.parts[task.world.deeds.index(entry[0])][names[entry[1]] - 1]
    page = 1
    for at, state in enumerate(tree.states):
        entry = entry_of(task, cells_of(table), state, page)
        if entry is None:
            return Lacks(page, task.sight_of(state), tree.states[:at + 1])
        page = entry[1]
    return Broken(tree.first, tree.states)


def losing_by_hand(task, table):
    cells = cells_of(table)
    for layer in layers_by_hand(task, cells):
        for stand, states, page, kept in layer:
            entry = entry_of(task, cells, states[-1], page)
            if entry is None or task.place_of((states[-1], kept), entry[0]) == "broken":
                play = Play(task, table, states, stand[1])
                places = ((stand[1],) + play.places)[:len(states)]
                return Losing(stand[1], states, play.pages, play.deeds, places)
    return None


class LosingTables(Case):

    def test_example(self):
        table = Table(1, [(1, "r", "a", 1)])
        self.assertEqual([beaten(BY_TURNS, refusal(BY_TURNS, 1), table).states, losing(BY_TURNS, table).places],
                         [("o", "o"), ("w0", "w1")])

    def test_paper(self):
        paper = Losing("w", ["s", "t"], [1, 2], ["d"], ["w", "v"])
        self.assertEqual((paper.word, paper.parts, bool(paper), isinstance(paper, Denial)),
                         ("losing", ("w", ("s", "t"), (1, 2), ("d",), ("w", "v")), True, False))
        self.assertEqual((paper.first, paper.states, paper.pages, paper.deeds, paper.places), paper.parts)
        self.assertEqual(Losing(places=["w", "v"], deeds=["d"], pages=[1, 2], states=["s", "t"], first="w"), paper)
        self.same([paper, Losing("w", ["s", "t"], [1, 2], ["d", "d"], ["w", "v"]), Paper("losing", *paper.parts)])

    def test_losing_by_hand(self):
        seen = {}
        for chance in chances(400):
            task = random_task(chance, most_states=4)
            table = chosen(chance, task, random_table(chance, task, lacking=0.05))
            told = losing_by_hand(task, table)
            self.gives(told, losing, task, table)
            self.assertIs(told is None, bool(holds(task, table)))
            key = None if told is None else (len(told.deeds) == len(told.states), min(3, len(told.states)))
            seen[key] = seen.get(key, 0) + 1
        self.assertEqual(set(seen), {None} | {(ends, many) for ends in (True, False) for many in (1, 2, 3)} , seen)

    def test_what_comes_first(self):
        # A break and a cell that lacks at the same moment: the stand at the beginning is asked first, then the states.
        watch = Watch(["l", "m"], ["a", "b"], [("x", [["y", "x"], ["y", "x"]]), ("y", [["y"] * 2, ["broken"] * 2])])
        task = SEEN.changed(watch=watch, standing=[("s", "x"), ("u", "x")])
        table = Table(2, [(1, "l", "a", 1), (1, "m", "a", 2), (2, "m", "b", 2)])
        self.gives(Losing("x", ["u", "s"], [1, 2], ["a"], ["x", "y"]), losing, task, table)
        table = Table(2, [(1, "l", "a", 1), (1, "m", "a", 2), (2, "l", "b", 2), (2, "m", "b", 2)])
        self.gives(Losing("x", ["u", "v"], [1, 2], ["a", "b"], ["x", "y"]), losing, task, table)
        # Of two stands of one state the first one is told, also where a break of the other one comes as soon.
        task = SEEN.changed(watch=watch, standing=[("u", "y"), ("u", "x"), ("s", "y")])
        self.gives(Losing("y", ["u"], [1], ["a"], ["y"]), losing, task, table)
        self.gives(Losing("x", ["s"], [1], [], ["x"]), losing, task.changed(standing=[("u", "y"), ("s", "y"), ("s", "x")]),
                   Table(1, [(1, "m", "a", 1)]))
        # A cell that lacks behind a break is not come to: the break is sooner.
        self.gives(Losing("x", ["o", "o"], [1, 1], ["a", "a"], ["x", "y"]), losing, TASK, FLAT)
        self.gives(Losing("x", ["o", "o"], [1, 2], ["a"], ["x", "y"]), losing, TASK, Table(2, [(1, "r", "a", 2)]))

    def test_beaten_by_hand(self):
        seen = {}
        for chance, task, k, paper in refused_tasks(400, 300):
            paper = cut(task, paper) if chance.random() < 0.5 else paper
            for _ in range(4):
                table = random_table(chance, task, k, chance.choice([0, 0.2, 0.5]))
                if table.pages <= k:
                    told = beaten(task, paper, table)
                    self.assertEqual(told, beaten_by_hand(task, paper.tree, table))
                    self.assertEqual(told, beaten(task, paper, table))
                    self.assertIs(shows_holds(task, table, told), True)
                    right = broken_is_right if told.word == "broken" else lacks_is_right
                    self.assertTrue(right(task, table, *told.parts))
                    seen[told.word, k] = seen.get((told.word, k), 0) + 1
        self.assertEqual(len(seen), 6, seen)

    def test_pages_of_a_table_in_other_orders(self):
        aab = Watch(["r"], ["a", "b"], [("u", (("v", "broken"),)), ("v", (("w", "broken"),)), ("w", (("broken", "u"),))])
        task = Task(TASK.world, Blur.alike(["r"], "r"), aab)
        paper = refusal(task, 2)
        for entries in ([(1, "r", "a", 2), (2, "r", "b", 1)], [(1, "r", "a", 2), (2, "r", "a", 1)],
                        [(1, "r", "a", 2), (2, "r", "a", 2)], [(1, "r", "a", 1)], [(1, "r", "b", 2)], [(1, "r", "a", 2)]):
            table = Table(2, entries)
            self.assertEqual(beaten(task, paper, table), beaten_by_hand(task, paper.tree, table))
        three = refusal(task.changed(watch=Watch(["r"], ["a", "b"], [
            ("u", (("v", "broken"),)), ("v", (("w", "broken"),)), ("w", (("x", "broken"),)), ("x", (("broken", "u"),))])), 3)
        longer = task.changed(watch=Watch(["r"], ["a", "b"], [
            ("u", (("v", "broken"),)), ("v", (("w", "broken"),)), ("w", (("x", "broken"),)), ("x", (("broken", "u"),))]))
        # Page 3 is come to first: it stands for page 2 of the tree.
        table = Table(3, [(1, "r", "a", 3), (3, "r", "a", 2), (2, "r", "b", 1)])
        self.assertEqual(beaten(longer, three, table), Broken("u", ["o"] * 3))
        self.assertEqual(beaten(longer, three, table.turned([1, 3, 2])), Broken("u", ["o"] * 3))
        self.assertEqual(beaten(longer, three, Table(3, [(1, "r", "a", 3), (3, "r", "a", 2)])), Lacks(2, "r", ["o"] * 3))

    def test_cells_that_lack_are_answered_by_the_first_tree(self):
        tree = Need(1, "s", [[R1.tree], [Need(1, "r", [[Leaf("w0", ["o", "o"])], [Leaf("w0", ["o"])]])]])
        task = BY_TURNS.changed(blur=Blur({"r": "r", "s": "s"}))
        self.gives(Broken("w0", ["o"]), beaten, task, Refusal(1, tree), Table(1, [(1, "r", "b", 1)]))
        self.gives(Lacks(1, "r", ["o"]), beaten, task, Refusal(1, tree), Table(1, [(1, "s", "b", 1)]))
        self.gives(Lacks(1, "r", ["o"]), beaten, BY_TURNS, R1, Table(1, [(1, "odd", "b", 1)]))

    def test_errors(self):
        odd = Table(2, [(1, "r", "a", 1), (1, "never", "c", 1)])
        for value in of_every_kind():
            if not isinstance(value, Task):
                self.fails(BadTask("task"), beaten, value, value, value)
                self.fails(BadTask("task"), losing, value, value)
            self.fails(BadPaper("refusal"), beaten, BY_TURNS, value, value)
            self.fails(BadTable("table"), beaten, BY_TURNS, R1, value)
            self.fails(BadTable("table"), losing, BY_TURNS, value)
        self.fails(BadPaper("refusal"), beaten, BY_TURNS, Refusal(2, R1.tree), odd)
        self.fails(Unlike("deeds"), beaten, BY_TURNS, R1, odd)
        self.fails(Unlike("deeds"), losing, BY_TURNS, odd)
        self.fails(BadTable("pages"), beaten, BY_TURNS, R1, TABLE)
        self.fails(BadTable("pages"), beaten, BY_TURNS, R1, Table(2, [(1, "r", "a", 1)]))
