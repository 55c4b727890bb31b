from common import Case, of_every_kind
from test_check_trees import R1, fault_by_hand, refused_tasks
from test_keepers import BY_TURNS
from test_trees import LEAF, deep

from dimkeeper.blurs import Blur
from dimkeeper.check_trees import shows_refusal
from dimkeeper.cut import cut, fewer
from dimkeeper.errors import BadNumbers, BadPaper, BadTask, BadTree
from dimkeeper.refuse import Refusal, refusal
from dimkeeper.tasks import Task
from dimkeeper.trees import Leaf, Need
from dimkeeper.watches import Watch
from dimkeeper.worlds import World

OTHER = World(["d"], [("p", "a", [["p"]]), ("q", "b", [["q"]])], ["p", "q"])
EVER = Task(OTHER, Blur.apart(["a", "b"]), Watch(["a", "b"], ["d"], [("w0", [["w0"], ["broken"]])]))


def cut_by_hand(task, k, tree, above=()):
    if isinstance(tree, Leaf):
        return tree
    rows = [[cut_by_hand(task, k, part, above + ((tree.page, tree.sight, deed, at + 1),)) for at, part in enumerate(row)]
            for deed, row in zip(task.world.deeds, tree.parts)]
    for row in rows:
        for part in row:
            if fault_by_hand(task, k, part, above) is None:
                return part
    return Need(tree.page, tree.sight, rows)


def questions(tree):
    return 0 if isinstance(tree, Leaf) else 1 + sum(questions(part) for row in tree.parts for part in row)


class Cuts(Case):

    def test_example(self):
        self.assertEqual([str(refusal(EVER, 1).tree), str(cut(EVER, refusal(EVER, 1)).tree)],
                         ["ask 1 a ( ask 1 b ( play w0 q ) )", "ask 1 b ( play w0 q )"])

    def test_by_hand(self):
        seen = {}
        for chance, task, k, paper in refused_tasks(400, 300):
            told = cut(task, paper)
            self.assertEqual(told, Refusal(k, cut_by_hand(task, k, paper.tree)))
            self.assertIs(shows_refusal(task, told), True)
            self.assertEqual(cut(task, told), told)
            less = questions(paper.tree) - questions(told.tree)
            self.assertGreaterEqual(less, 0)
            seen[less > 0] = seen.get(less > 0, 0) + 1
        self.assertEqual(len(seen), 2)

    def test_idle_questions(self):
        odd = BY_TURNS.changed(blur=Blur({"r": "r", "s": "idle"}))
        tree = Need(1, "idle", [[R1.tree], [R1.tree]])
        self.gives(R1, cut, odd, Refusal(1, tree))
        # The first tree that is right in its place is taken, by rows.
        one, two = Need(1, "more", [[R1.tree], [R1.tree]]), R1.tree
        wide = BY_TURNS.changed(blur=Blur({"r": "r", "s": "idle", "t": "more"}))
        self.gives(R1, cut, wide, Refusal(1, Need(1, "idle", [[one], [two]])))
        other = Need(1, "r", [[Leaf("w0", ["o", "o"])], [Leaf("w0", ["o"])]])
        self.gives(Refusal(1, other), cut, wide, Refusal(1, Need(1, "idle", [[other], [one]])))

    def test_fewer_pages(self):
        seen = {}
        for chance, task, k, paper in refused_tasks(400, 300):
            for less in range(1, k + 1):
                told = fewer(paper, less)
                self.assertEqual(told, refusal(task, less))
                self.assertIs(shows_refusal(task, told), True)
                # A tree that was cut stays right, too.
                self.assertIs(shows_refusal(task, fewer(cut(task, paper), less)), True)
                seen[k, less] = True
        self.assertEqual(len(seen), 6)

    def test_rows_with_too_few_trees(self):
        leaf = LEAF
        asked = Need(1, "r", [[leaf, leaf]])
        self.gives(Refusal(1, Need(1, "r", [[leaf]])), fewer, Refusal(2, asked), 1)
        self.gives(Refusal(2, asked), fewer, Refusal(2, asked), 2)
        self.fails(BadTree("pages"), fewer, Refusal(2, Need(1, "r", [[leaf]])), 2)
        self.fails(BadTree("pages"), fewer, Refusal(2, Need(1, "r", [[leaf, leaf], [leaf]])), 2)
        # A tree that does not stay may have what it has; one behind a second page must have a third one.
        narrow = Need(1, "r", [[leaf, Need(1, "s", [[leaf, leaf]])]])
        self.gives(Refusal(2, narrow), fewer, Refusal(3, narrow), 2)
        self.gives(Refusal(1, Need(1, "r", [[leaf]])), fewer, Refusal(3, narrow), 1)
        self.fails(BadTree("pages"), fewer, Refusal(3, narrow), 3)
        # Behind page 1 two trees are right still, and behind page 2 three, whatever came before.
        early = Need(1, "r", [[Need(1, "s", [[leaf, Need(2, "s", [[leaf] * 3])]]), leaf]])
        self.gives(Refusal(3, early), fewer, Refusal(3, early), 3)
        self.fails(BadTree("pages"), fewer, Refusal(4, Need(1, "r", [[leaf, Need(1, "s", [[Need(1, "t", [[leaf] * 2])] * 3])]])), 4)
        # More trees than are right are left out, whatever they are.
        wide = Need(5, "q", [[leaf, Leaf("w9", ["z"]), deep(3)], [leaf] * 7])
        self.gives(Refusal(3, Need(5, "q", [[leaf, Leaf("w9", ["z"])], [leaf] * 2])), fewer, Refusal(3, Need(5, "q", [
            [leaf, Leaf("w9", ["z"]), leaf], [leaf] * 7])), 3)
        self.gives(Refusal(1, Need(5, "q", [[leaf], [leaf]])), fewer, Refusal(3, wide), 1)
        self.gives(Refusal(1, leaf), fewer, Refusal(200, leaf), 1)

    def test_errors(self):
        for value in of_every_kind():
            if not isinstance(value, Task):
                self.fails(BadTask("task"), cut, value, value)
            self.fails(BadPaper("refusal"), cut, BY_TURNS, value)
            self.fails(BadPaper("refusal"), fewer, value, value)
            if not (type(value) is int and value == 1):
                self.fails(BadNumbers("k"), fewer, R1, value)
        self.fails(BadPaper("refusal"), cut, BY_TURNS, Refusal(2, R1.tree))
        self.fails(BadPaper("refusal"), fewer, Refusal(201, R1.tree), 1)
        self.fails(BadPaper("refusal"), fewer, Refusal(1, "tree"), 0)
        self.fails(BadNumbers("k"), fewer, R1, 2)
        self.fails(BadNumbers("k"), fewer, R1, 0)
        self.assertEqual(fewer(Refusal(200, R1.tree), 1), R1)
