from common import Case, chances, of_every_kind, random_task
from table_hands import cells_of, how_many, list_by_hand, random_table, small_task
from test_check_trees import fault_by_hand, leaf_fault_by_hand
from test_heights import DIM
from test_keepers import BY_TURNS, free_task
from test_least import word_task
from test_plays import FLAT, TABLE, TASK
from test_refuse import chain_task
from wait_hands import moments_by_hand, most_moments_by_hand

from dimkeeper.blurs import Blur
from dimkeeper.check_patience import shows_time
from dimkeeper.errors import BadNumbers, BadTable, BadTask, TooMany, Unlike
from dimkeeper.keepers import first_kept
from dimkeeper.moments import SureTime, moments_of, sure_moments
from dimkeeper.papers import Denial, Paper
from dimkeeper.promises import never
from dimkeeper.tables import Table
from dimkeeper.tasks import Task, choices
from dimkeeper.trees import Leaf
from dimkeeper.watches import Watch
from dimkeeper.worlds import World

FORK = World(["left", "right"], [("l0", "l", (["l0"], ["x0"])), ("r0", "r", (["x0"], ["r0"])), ("x0", "x", (["x0"], ["x0"]))],
             ["l0", "r0"])
ALIKE = Task(FORK, Blur({"l": "lr", "r": "lr", "x": "x"}), never(FORK.labels, FORK.deeds, ["x"]))


def time_fault_by_hand(number):
    """What is wrong with a leaf that is to break at this moment or ahead of it."""
    def fault(task, leaf, above):
        return "long" if len(leaf.states) > number + 1 else leaf_fault_by_hand(task, leaf, above)
    return fault


def time_is_right(task, k, paper):
    """Whether a SureTime is right by the document's words."""
    if type(paper.number) is not int or paper.number < 0 or not isinstance(paper.tree, (Leaf, type(sure_moments(ALIKE, 1).tree))):
        return False
    if paper.number == 0 and paper.table != ():
        return False
    if paper.number:
        try:
            table = Table(k, paper.table)
        except ValueError:
            return False
        if any(row[2] not in task.world.deeds for row in table.entries):
            return False
        many = moments_by_hand(task, cells_of(table))
        if many is not None and many < paper.number:
            return False
    return fault_by_hand(task, k, paper.tree, (), time_fault_by_hand(paper.number)) is None


class Moments(Case):

    def test_example(self):
        self.assertEqual([sure_moments(ALIKE, 1).number, moments_of(ALIKE, Table(1, [(1, "lr", "left", 1)])),
                          sure_moments(ALIKE.changed(blur=Blur.apart(FORK.labels)), 1).word], [1, 1, "kept"])

    def test_paper(self):
        paper = SureTime(1, [[1, "r", "a", 1]], Leaf("w", ["o"]))
        self.assertEqual((paper.word, paper.parts, bool(paper), isinstance(paper, Denial), isinstance(paper, Paper)),
                         ("suretime", (1, ((1, "r", "a", 1),), Leaf("w", ["o"])), True, False, True))
        self.assertEqual((paper.number, paper.table, paper.tree), paper.parts)
        self.assertEqual(SureTime(tree=Leaf("w", ["o"]), table=((1, "r", "a", 1),), number=1), paper)
        self.same([paper, SureTime(2, [[1, "r", "a", 1]], Leaf("w", ["o"])), SureTime(1, [], Leaf("w", ["o"])),
                   Paper("suretime", *paper.parts)])

    def test_moments_of_tables(self):
        seen = {}
        for chance in chances(300):
            task = random_task(chance)
            table = random_table(chance, task, 3, 0.1)
            number = moments_by_hand(task, cells_of(table))
            self.gives(number, moments_of, task, table)
            seen[number] = True
        self.assertTrue({None, 0, 1, 2, 3} <= set(seen), seen)
        self.assertEqual((moments_of(TASK, TABLE), moments_of(TASK, FLAT), moments_of(TASK, Table(2, [(1, "r", "a", 2)]))),
                         (None, 1, 1))

    def test_by_hand(self):
        seen = {}
        for chance in chances(400):
            k = chance.choice([1, 2, 2, 3])
            task = small_task(chance, k, 1300, most_states=4, most_deeds=2, most_labels=3 if k == 1 else 2)
            if choices(task, k) > 1300:
                continue
            paper = sure_moments(task, k)
            self.assertEqual(sure_moments(task, k), paper)
            number = most_moments_by_hand(task, k)
            if number is None:
                self.assertEqual(paper, first_kept(task, k))
            else:
                self.assertIsInstance(paper, SureTime)
                self.assertEqual(paper.number, number)
                self.assertTrue(time_is_right(task, k, paper))
                self.assertTrue(shows_time(task, k, paper))
                self.assertEqual(list_by_hand(task, k), [])
            seen[number, k] = True
        self.assertTrue({(None, 2), (0, 2), (1, 2), (2, 2), (3, 2), (1, 1), (2, 1), (2, 3)} <= set(seen), seen)

    def test_words(self):
        # With so few pages the word can only be begun.
        for word, numbers in [("ab", [1]), ("aab", [2, 2]), ("aabb", [2, 3, 3]), ("abb", [1, 2]), ("aaab", [3, 3, 3]),
                              ("abba", [1, 3, 3])]:
            task = word_task(word)
            for k, number in enumerate(numbers, 1):
                paper = sure_moments(task, k)
                self.assertEqual(paper.word, "suretime", (word, k))
                self.assertEqual(paper.number, most_moments_by_hand(task, k), (word, k))
                self.assertTrue(time_is_right(task, k, paper))
            self.assertEqual(sure_moments(task, len(word)).word, "kept")

    def test_a_break_that_is_not_the_first_to_be_found(self):
        # A play that comes to a place again breaks late, though a cell that is asked later breaks sooner.
        labels, deeds = ["e", "f"], ["a", "b"]
        world = World(deeds, [("s", "e", [["s", "t"], ["s", "t"]]), ("t", "f", [["t"], ["t"]])], ["s"])
        watch = Watch(labels, deeds, [("w0", [["w1", "broken"], ["w0", "w0"]]), ("w1", [["w2", "broken"], ["broken", "w1"]]),
                                      ("w2", [["broken", "broken"], ["broken", "w2"]])])
        task = Task(world, Blur.apart(labels), watch)
        for k in (1, 2):
            paper = sure_moments(task, k)
            self.assertEqual(paper.number, most_moments_by_hand(task, k))
            self.assertTrue(time_is_right(task, k, paper))

    def test_nothing_is_sure(self):
        task = DIM.changed(watch=never(DIM.watch.labels, DIM.watch.deeds, ["h"]))
        paper = sure_moments(task, 2)
        self.assertEqual((paper.number, paper.table), (0, ()))
        self.assertTrue(all(len(row.states) == 1 for part in paper.tree.parts for row in part))

    def test_depths(self):
        for many in (60, 61):
            task = chain_task(many, True)
            if many == 61:
                self.fails(TooMany("depth", 60), sure_moments, task, 1)
            else:
                paper = sure_moments(task, 1)
                self.assertEqual((paper.number, paper.tree.depth, len(paper.table)), (59, 60, 60))
                self.assertTrue(shows_time(task, 1, paper))
            self.assertEqual(sure_moments(chain_task(many, False), 1).word, "kept")

    def test_errors(self):
        for value in of_every_kind():
            self.fails(BadTask("task"), sure_moments, value, value)
            self.fails(BadTask("task"), moments_of, value, value)
            self.fails(BadTable("table"), moments_of, TASK, value)
            if value is True or type(value) is not int or value != 1:
                self.fails(BadNumbers("k"), sure_moments, BY_TURNS, value)
        for number in (0, 201, -1, "1", True):
            self.fails(BadNumbers("k"), sure_moments, BY_TURNS, number)
        self.fails(Unlike("deeds"), moments_of, TASK, Table(1, [(1, "odd", "c", 1)]))
        self.fails(TooMany("choices", 100000), sure_moments, BY_TURNS, 200)
        self.fails(TooMany("choices", 100000), sure_moments, free_task(list("ab"), 17), 1)
        self.assertEqual(sure_moments(free_task(list("ab"), 16), 1).word, "kept")
        self.assertEqual(how_many(BY_TURNS, 2), 16)
