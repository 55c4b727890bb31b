from common import Case, chances, of_every_kind
from table_hands import cells_of
from test_check_trees import fault_by_hand, leaf_fault_by_hand
from test_heights import DIM, HOME, ways_task
from test_keepers import BY_TURNS, free_task
from test_refuse import chain_task
from wait_hands import (delay_is_right, delays_by_hand, late_by_hand, random_wait, ring_by_hand, waiting_task)

from dimkeeper.blurs import Blur
from dimkeeper.check_patience import shows_patience
from dimkeeper.delays import Never, Patience, delays, least_delay
from dimkeeper.errors import BadNumbers, BadTask, BadWait, TooMany
from dimkeeper.heights import Delay, delay
from dimkeeper.papers import Denial, Paper
from dimkeeper.promises import anything, never
from dimkeeper.tables import Table
from dimkeeper.tasks import Task, choices
from dimkeeper.trees import Leaf
from dimkeeper.waits import Wait
from dimkeeper.worlds import World


def wait_fault_by_hand(wait, many):
    """What is wrong with a leaf that is to break, or to be late for so many, a ring for None."""
    def fault(task, leaf, above):
        what = leaf_fault_by_hand(task, leaf, above)
        if what is None or (leaf.states[0], leaf.first) not in task.standing:
            return what
        cells = {row[:2]: row[2:] for row in above}
        if many is None:
            is_fine = any(ring_by_hand(task, cells, wait, leaf.states, at) for at in range(len(leaf.states)))
        else:
            is_fine = late_by_hand(task, cells, wait, leaf.states, many)
        return None if is_fine else what
    return fault


def wait_tree_fault(task, wait, k, tree, many):
    return fault_by_hand(task, k, tree, (), wait_fault_by_hand(wait, many))


class Delays(Case):

    def test_example(self):
        found = least_delay(DIM, HOME, 2)
        self.assertEqual([found.number, found.table, delays(DIM, HOME, 3)],
                         [2, ((1, "dark", "a", 2), (2, "dark", "b", 1)), (3, 2, 2)])
        self.assertEqual([delays(DIM, Wait(["h"], ["h"]), 1), delays(DIM, Wait(["x"], ["h"]), 2),
                          bool(least_delay(DIM, Wait(["h"], ["x"]), 2))], [(1,), (0, 0), False])

    def test_papers(self):
        paper = Patience(0, [[1, "r", "a", 1]], None, None)
        self.assertEqual((paper.word, paper.parts, bool(paper), isinstance(paper, Denial), isinstance(paper, Paper)),
                         ("patience", (0, ((1, "r", "a", 1),), None, None), True, False, True))
        self.assertEqual((paper.number, paper.table, paper.delay, paper.tree), paper.parts)
        self.assertEqual(Patience(tree=None, delay=None, table=((1, "r", "a", 1),), number=0), paper)
        no = Never(Leaf("w", ["o"]))
        self.assertEqual((no.word, no.parts, bool(no), isinstance(no, Denial)), ("never", (Leaf("w", ["o"]),), False, True))
        self.assertEqual((no.tree, Never(tree=Leaf("w", ["o"]))), (Leaf("w", ["o"]), no))
        self.same([paper, Patience(1, [[1, "r", "a", 1]], None, None), no, Never(Leaf("w", ["p"])),
                   Paper("patience", *paper.parts), Denial("never", *no.parts)])

    def test_by_hand(self):
        seen = {}
        for chance in chances(330):
            k = chance.choice([1, 2, 2, 3])
            task = waiting_task(chance, k, most_states=4, most_deeds=2, most_labels=3 if k == 1 else 2)
            wait = random_wait(chance, task)
            told = delays_by_hand(task, wait, k)
            numbers = [number for _, number in told if number is not None]
            paper = least_delay(task, wait, k)
            self.assertEqual(least_delay(task, wait, k), paper)
            self.assertTrue(shows_patience(task, wait, k, paper))
            least = min(numbers) if numbers else None
            if least is None:
                self.assertIsInstance(paper, Never)
                self.assertIsNone(wait_tree_fault(task, wait, k, paper.tree, None))
            else:
                form = next(form for form, number in told if number == least)
                self.assertEqual((paper.number, paper.table), (least, tuple(sorted(form))))
                self.assertTrue(delay_is_right(task, {row[:2]: row[2:] for row in form}, wait, paper.delay))
                self.assertEqual(paper.tree is None, least == 0)
                if least:
                    self.assertIsNone(wait_tree_fault(task, wait, k, paper.tree, least - 1))
            self.assertEqual(delays(task, wait, k)[-1], least)
            seen[least, len(told) > 0, k > 1] = True
        self.assertTrue({(None, False, True), (None, True, True), (0, True, True), (1, True, True), (2, True, True),
                         (3, True, True), (None, True, False), (2, True, False)} <= set(seen), seen)

    def test_lost_tasks(self):
        # Each table breaks: the tree is right as that of a refusal is.
        paper = least_delay(BY_TURNS, Wait.again(["r"]), 1)
        self.assertIsInstance(paper, Never)
        self.assertIsNone(fault_by_hand(BY_TURNS, 1, paper.tree))
        self.assertEqual(delays(BY_TURNS, Wait.again(["r"]), 3), (None, 1, 1))

    def test_rings_for_tables_that_hold(self):
        # What holds waits for ever, and what answers breaks soon.
        world = World(["a", "b"], [("o", "e", [["o"], ["h"]]), ("h", "h", [["o"], ["o"]])], ["o"])
        task = Task(world, Blur.alike(["e", "h"]), anything(["e", "h"], ["a", "b"]))
        calm = task.changed(watch=never(["e", "h"], ["a", "b"], ["h"]))
        self.assertEqual(delays(task, HOME, 2), (2, 2))
        self.assertEqual(delays(calm, HOME, 2), (None, None))
        tree = least_delay(calm, HOME, 1).tree
        self.assertEqual(len(tree), 2)

    def test_the_first_of_the_best_tables(self):
        task = free_task(["a", "b"], 1)
        paper = least_delay(task, Wait.again(["l0"]), 2)
        self.assertEqual((paper.number, paper.table), (1, ((1, "l0", "a", 1),)))
        self.assertEqual(paper.delay, delay(task, Table(1, paper.table), Wait.again(["l0"])))
        self.assertEqual(paper.tree, Leaf("w0", ["s0"]))
        self.assertEqual(least_delay(task, Wait(["odd"], ["l0"]), 1), Patience(0, [(1, "l0", "a", 1)], Delay(0, (), ()), None))

    def test_many_pages(self):
        # With k pages one deed can be done so often that the state behind is come to.
        rows = [(f"s{at}", "e", [[f"s{min(at + 1, 3)}"], ["h" if at == 3 else "s0"]]) for at in range(4)]
        world = World(["a", "b"], rows + [("h", "h", [["s0"], ["s0"]])], ["s0"])
        task = Task(world, Blur.alike(["e", "h"]), anything(["e", "h"], ["a", "b"]))
        self.assertEqual(delays(task, HOME, 5), (None, None, None, 8, 5))
        self.assertEqual([(form, number) for form, number in delays_by_hand(task, HOME, 4) if number is not None][0],
                         (least_delay(task, HOME, 4).table, 8))
        self.assertEqual(least_delay(task, HOME, 5).table, ((1, "dark", "a", 2), (2, "dark", "a", 3), (3, "dark", "a", 4),
                                                           (4, "dark", "b", 5), (5, "dark", "a", 1)))

    def test_depths(self):
        # One deed and one page: a question for each sight up to the first that shows that all wait so long.
        for many in (59, 60, 61, 62, 63):
            task = chain_task(many, False)
            wait = Wait.again([f"l{many - 1:03d}"])
            # All moments ahead of the last one wait: the cell of the last of these need not be answered.
            if many - 2 > 60:
                self.fails(TooMany("depth", 60), least_delay, task, wait, 1)
                self.fails(TooMany("depth", 60), delays, task, wait, 1)
            else:
                paper = least_delay(task, wait, 1)
                self.assertEqual((paper.number, paper.tree.depth), (many, many - 2))
                self.assertTrue(shows_patience(task, wait, 1, paper))
            odd = Wait.again(["odd"])
            if many > 60:
                self.fails(TooMany("depth", 60), least_delay, task, odd, 1)
            else:
                self.assertEqual(least_delay(task, odd, 1).tree.depth, many)
            # Without a tree nothing is too deep.
            self.assertEqual(least_delay(task, Wait(["odd"], ["odd"]), 1).number, 0)

    def test_errors(self):
        for value in of_every_kind():
            self.fails(BadTask("task"), least_delay, value, value, value)
            self.fails(BadTask("task"), delays, value, value, value)
            self.fails(BadWait("wait"), least_delay, DIM, value, value)
            self.fails(BadWait("wait"), delays, DIM, value, value)
            if value is not True and type(value) is int and value == 1:
                continue
            self.fails(BadNumbers("k"), least_delay, DIM, HOME, value)
            self.fails(BadNumbers("most"), delays, DIM, HOME, value)
        for number in (0, 201, -1, "1", True):
            self.fails(BadNumbers("k"), least_delay, DIM, HOME, number)
            self.fails(BadNumbers("most"), delays, DIM, HOME, number)
        self.fails(TooMany("choices", 100000), least_delay, DIM, HOME, 200)
        self.fails(TooMany("choices", 100000), delays, DIM, HOME, 200)

    def test_choices(self):
        fine, wide = free_task(list("ab"), 16), free_task(list("ab"), 17)
        self.assertEqual((choices(fine, 1), choices(wide, 1)), (65536, 131072))
        wait = Wait(["odd"], ["l0"])
        self.assertEqual(delays(fine, wait, 1), (0,))
        for call in (least_delay, delays):
            self.fails(TooMany("choices", 100000), call, wide, wait, 1)
            self.fails(TooMany("choices", 100000), call, fine, wait, 2)
        ten = Task(World(list("abcdefghij"), [(f"s{at}", f"l{at}", [[f"s{at}"]] * 10) for at in range(5)], [f"s{at}" for at in range(5)]),
                   Blur.apart([f"l{at}" for at in range(5)]), anything([f"l{at}" for at in range(5)], list("abcdefghij")))
        self.assertEqual(choices(ten, 1), 100000)
        self.assertEqual(least_delay(ten, wait, 1).number, 0)

    def test_long_rows(self):
        paper = least_delay(ways_task(12), HOME, 3)
        self.assertEqual((paper.number, len(paper.delay.play)), (12, 12))
        self.assertEqual(cells_of(Table(1, paper.table)), {(1, "dark"): ("d", 1)})
