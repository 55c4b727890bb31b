from bending import bent
from common import Case, chances, of_every_kind, other_class, random_task
from test_keepers import APART, BY_TURNS
from test_refuse import chain_task
from test_trees import deep

from dimkeeper.blurs import Blur
from dimkeeper.check_trees import shows_refusal, tree_fault
from dimkeeper.closed import holds
from dimkeeper.errors import BadPaper, BadTask
from dimkeeper.papers import Denial
from dimkeeper.refuse import Refusal, refusal
from dimkeeper.tables import Table
from dimkeeper.tasks import Task, choices
from dimkeeper.trees import Leaf, Need

R1 = refusal(BY_TURNS, 1)
BOTH = (Leaf("w0", ["o", "o"]), Leaf("w0", ["o"]))


def leaf_fault_by_hand(task, leaf, above):
    if (leaf.states[0], leaf.first) not in task.standing:
        return "first"
    page, kept = 1, leaf.first
    for at, state in enumerate(leaf.states):
        entry = [row for row in above if row[:2] == (page, task.sight_of(state))]
        if not entry:
            return "cell"
        _, _, deed, page = entry[0]
        kept = task.place_of((state, kept), deed)
        last = at == len(leaf.states) - 1
        if kept == "broken" and not last or kept != "broken" and last:
            return "broken"
        if not last and leaf.states[at + 1] not in task.world.nexts(state, deed):
            return "next"
    return None


def fault_by_hand(task, k, tree, above=(), leaf_fault=leaf_fault_by_hand):
    """By the words of the document."""
    if isinstance(tree, Leaf):
        what = leaf_fault(task, tree, above)
        return what and (above, what)
    used = max([1] + [row[3] for row in above])
    if tree.page > used:
        return above, "page"
    if tree.sight not in task.blur.sights:
        return above, "sight"
    if (tree.page, tree.sight) in [row[:2] for row in above]:
        return above, "cell"
    if len(tree.parts) != len(task.world.deeds):
        return above, "deeds"
    if not all(len(row) == min(used + 1, k) for row in tree.parts):
        return above, "pages"
    for deed, row in zip(task.world.deeds, tree.parts):
        for at, part in enumerate(row):
            fault = fault_by_hand(task, k, part, above + ((tree.page, tree.sight, deed, at + 1),), leaf_fault)
            if fault:
                return fault
    return None


def told(tree):
    """A tree as tuples, so that it can be bent."""
    if isinstance(tree, Leaf):
        return tree.first, tree.states
    return tree.page, tree.sight, tuple(tuple(told(part) for part in row) for row in tree.parts)


def made(value):
    """The tree of such tuples, or None."""
    try:
        if len(value) == 2:
            return Leaf(*value)
        return Need(value[0], value[1], [[made(part) for part in row] for row in value[2]])
    except (ValueError, TypeError, IndexError):
        return None


def refused_tasks(many, most=400, **more):
    """Random tasks with refusals of some numbers of pages."""
    for chance in chances(many):
        task, k = random_task(chance, **more), chance.choice([1, 2, 2, 3])
        if choices(task, k) <= most:
            paper = refusal(task, k)
            if paper is not None:
                yield chance, task, k, paper


class CheckTrees(Case):

    def test_what_is_told_is_shown(self):
        many = 0
        for _, task, k, paper in refused_tasks(500):
            self.assertIs(shows_refusal(task, paper), True)
            self.assertIsNone(tree_fault(task, paper))
            many += 1
        self.assertGreater(many, 50)

    def test_each_fault(self):
        leaf, ok = Leaf("w0", ["o"]), [[BOTH[0]], [BOTH[1]]]
        for tree, fault in [
                (Need(2, "r", ok), ((), "page")), (Need(2, "q", ok), ((), "page")), (Need(1, "q", ok), ((), "sight")),
                (Need(1, "r", ok[:1]), ((), "deeds")), (Need(1, "r", ok + ok), ((), "deeds")),
                (Need(1, "r", [[BOTH[0]] * 2, [leaf]]), ((), "pages")), (Need(1, "r", [[BOTH[0]], [leaf] * 2]), ((), "pages")),
                (Need(1, "r", [[Need(1, "r", [[leaf]])], [leaf]]), (((1, "r", "a", 1),), "cell")),
                (leaf, ((), "cell")), (Leaf("w1", ["o"]), ((), "first")), (Leaf("w0", ["p"]), ((), "first")),
                (Leaf("broken", ["o"]), ((), "first")), (Need(1, "r", [[leaf], [leaf]]), (((1, "r", "a", 1),), "broken")),
                (Need(1, "r", [[BOTH[0]], [BOTH[0]]]), (((1, "r", "b", 1),), "broken")),
                (Need(1, "r", [[Leaf("w0", ["o", "p"])], [leaf]]), (((1, "r", "a", 1),), "next")),
                (Need(1, "r", [[Leaf("w0", ["o", "o", "o"])], [leaf]]), (((1, "r", "a", 1),), "broken")), (R1.tree, None)]:
            self.assertEqual(tree_fault(BY_TURNS, Refusal(1, tree)), fault)
            self.assertIs(shows_refusal(BY_TURNS, Refusal(1, tree)), fault is None)
        # A question is at fault ahead of its trees, and its first rows ahead of the later ones.
        self.assertEqual(tree_fault(BY_TURNS, Refusal(2, R1.tree)), ((), "pages"))
        self.assertEqual(tree_fault(BY_TURNS, Refusal(1, Need(1, "r", [[leaf], [Leaf("w1", ["o"])]]))),
                         (((1, "r", "a", 1),), "broken"))

    def test_pages_as_they_are_used(self):
        task = chain_task(2, True)
        asked = Need(1, "l001", [[Leaf("w", ["s0", "s1"])]])
        self.assertIsNone(tree_fault(task, Refusal(1, Need(1, "l000", [[asked]]))))
        two = Need(1, "l001", [[Leaf("w", ["s0", "s1"])] * 2])
        three = Need(2, "l001", [[Leaf("w", ["s0", "s1"])] * 3])
        capped = Need(2, "l001", [[Leaf("w", ["s0", "s1"])] * 2])
        self.assertIsNone(tree_fault(task, Refusal(3, Need(1, "l000", [[two, three]]))))
        self.assertIsNone(tree_fault(task, Refusal(2, Need(1, "l000", [[two, capped]]))))
        above = ((1, "l000", "d", 2),)
        self.assertEqual(tree_fault(task, Refusal(2, Need(1, "l000", [[two, three]]))), (above, "pages"))
        self.assertEqual(tree_fault(task, Refusal(3, Need(1, "l000", [[two, capped]]))), (above, "pages"))
        self.assertEqual(tree_fault(task, Refusal(3, Need(1, "l000", [[three, three]]))), (((1, "l000", "d", 1),), "page"))
        self.assertEqual(tree_fault(task, Refusal(3, Need(1, "l000", [[two, Need(3, "l001", [[BOTH[0]]])]]))), (above, "page"))
        self.assertEqual(tree_fault(task, Refusal(1, Need(1, "l000", [[Leaf("w", ["s0", "s1"])]]))),
                         (((1, "l000", "d", 1),), "cell"))

    def test_idle_questions(self):
        leafs = [[Leaf("w0", ["le"])], [Leaf("w0", ["le", "x"])]]
        odd = BY_TURNS.changed(blur=Blur({"r": "r", "s": "idle"}))
        tree = Need(1, "idle", [[R1.tree], [R1.tree]])
        self.assertIs(shows_refusal(odd, Refusal(1, tree)), True)
        self.assertIs(shows_refusal(BY_TURNS, Refusal(1, tree)), False)
        self.assertEqual(tree_fault(APART, Refusal(1, Need(1, "l", leafs))), (((1, "l", "left", 1),), "broken"))

    def test_bent_trees(self):
        seen = {}
        for chance, task, k, paper in refused_tasks(500, 120):
            others = [*task.world.states, *task.watch.states, *task.blur.sights, "broken", "odd", 1, 2, 3, 4,
                      told(paper.tree)]
            parts = told(paper.tree)
            others += [parts[2][0][0], parts[2][-1][-1]]
            for _ in range(25):
                tree = made(bent(chance, parts, others))
                if tree is not None:
                    fault = fault_by_hand(task, k, tree)
                    self.gives(fault, tree_fault, task, Refusal(k, tree))
                    self.assertIs(shows_refusal(task, Refusal(k, tree)), fault is None)
                    what = fault and fault[1]
                    seen[what] = seen.get(what, 0) + 1
        self.assertTrue({None, "page", "sight", "cell", "deeds", "pages", "first", "broken", "next"} <= set(seen), seen)

    def test_any_pages_and_values(self):
        class Lower(Refusal):
            pass
        for value in of_every_kind() + [R1.tree, Lower(1, R1.tree), Denial("refusal", 1, R1.tree),
                                        other_class("Refusal", pages=1, tree=R1.tree)]:
            self.assertIs(shows_refusal(BY_TURNS, value), False)
            self.fails(BadPaper("refusal"), tree_fault, BY_TURNS, value)
            if not isinstance(value, dict) or None not in value:
                if value is not R1.tree:
                    self.assertIs(shows_refusal(BY_TURNS, Refusal(1, value)), False)
                    self.fails(BadPaper("refusal"), tree_fault, BY_TURNS, Refusal(1, value))
                if not (type(value) is int and value == 1):
                    self.assertIs(shows_refusal(BY_TURNS, Refusal(value, R1.tree)), False)
                    self.fails(BadPaper("refusal"), tree_fault, BY_TURNS, Refusal(value, R1.tree))
            if not isinstance(value, Task):
                self.fails(BadTask("task"), shows_refusal, value, value)
                self.fails(BadTask("task"), tree_fault, value, value)
        for k in (0, 201, -1):
            self.fails(BadPaper("refusal"), tree_fault, BY_TURNS, Refusal(k, R1.tree))
        self.assertEqual(tree_fault(BY_TURNS, Refusal(200, deep(60))), ((), "deeds"))

    def test_no_table_holds_where_a_tree_is_right(self):
        for chance, task, k, paper in refused_tasks(200, 120):
            for _ in range(5):
                pages = chance.randint(1, k)
                entries = [(page, sight, chance.choice(task.world.deeds), chance.randint(1, pages))
                           for page in range(1, pages + 1) for sight in task.blur.sights]
                self.assertFalse(holds(task, Table(pages, entries)))
            # A harder task, with more stands in its standing, is refused by the same tree; so is one that is broken sooner.
            stands = [(state, kept) for state in task.world for kept in task.watch]
            harder = task.changed(standing=list(task.standing) + [
                stand for stand in stands[:2] if stand not in task.standing])
            self.assertIs(shows_refusal(harder, paper), True)
