from common import Case, chances, names, of_every_kind, random_task
from table_hands import counted, grown, list_by_hand, search_by_hand, small_task
from test_keepers import APART, BY_TURNS, free_task

from dimkeeper.blurs import Blur
from dimkeeper.errors import BadNumbers, BadTask, TooMany
from dimkeeper.keepers import count_kept, first_kept
from dimkeeper.papers import Denial, Paper
from dimkeeper.promises import never
from dimkeeper.refuse import Refusal, opened, refusal
from dimkeeper.search import Search
from dimkeeper.tasks import Task, choices
from dimkeeper.trees import Leaf, Need, Tree
from dimkeeper.watches import Watch
from dimkeeper.worlds import World


def chain_task(many, is_broken):
    """So many sights, one behind the other, and one deed; behind the last sight the promise is broken, if it is."""
    states = names("s", many)
    labels = [f"l{at:03d}" for at in range(many)]
    world = World(["d"], [(state, label, [[after]]) for state, label, after in zip(states, labels, states[1:] + states[-1:])],
                  ["s0"])
    watch = Watch(labels, ["d"], [("w", [["w"]] * (many - 1) + [["broken" if is_broken else "w"]])])
    return Task(world, Blur.apart(labels), watch)


class Refusals(Case):

    def test_example(self):
        self.assertEqual([str(refusal(BY_TURNS, 1).tree), refusal(BY_TURNS, 2), opened(BY_TURNS, 1), opened(BY_TURNS, 2)],
                         ["ask 1 r ( play w0 o o / play w0 o )", None, (1, 2, 0), (2, 6, 1)])

    def test_the_search_of_two_pages(self):
        # Behind the answer a, 2 the cell (2, r) is asked: a breaks at moment 1 with both pages, b, 2 at moment 2.
        search, told = Search(BY_TURNS, 2), []
        while search.here is not None:
            told.append((search.here, search.given()))
            search.go_on()
        ahead = ((1, "r", "a", 2),)
        self.assertEqual(told, [("ask", ()), ("leaf", ((1, "r", "a", 1),)), ("ask", ahead),
                                ("leaf", ahead + ((2, "r", "a", 1),)), ("leaf", ahead + ((2, "r", "a", 2),)),
                                ("end", ahead + ((2, "r", "b", 1),)), ("leaf", ahead + ((2, "r", "b", 2),)),
                                ("leaf", ((1, "r", "b", 1),)), ("leaf", ((1, "r", "b", 2),))])

    def test_paper(self):
        paper = Refusal(2, Leaf("w", ["o"]))
        self.assertEqual((paper.word, paper.parts, bool(paper), isinstance(paper, Denial), isinstance(paper, Paper)),
                         ("refusal", (2, Leaf("w", ["o"])), False, True, True))
        self.assertEqual((paper.pages, paper.tree), paper.parts)
        self.assertEqual(Refusal(tree=Leaf("w", ("o",)), pages=2), paper)
        self.same([paper, Refusal(1, Leaf("w", ["o"])), Refusal(2, Leaf("w", ["p"])), Denial("refusal", *paper.parts)])

    def test_whole_searches_by_hand(self):
        seen = {}
        for chance in chances(250):
            k = chance.choice([1, 2, 2, 3])
            task = random_task(chance, most_states=4, most_deeds=2)
            if choices(task, k) > 1500:
                continue
            tree = search_by_hand(task, k)
            told = counted(tree)
            self.gives(told, opened, task, k)
            self.assertEqual(told[2], count_kept(task, k))
            if told[2]:
                self.assertIsNone(refusal(task, k))
            else:
                self.gives(Refusal(k, grown(tree)), refusal, task, k)
                self.assertEqual((len(refusal(task, k).tree)), told[1])
                self.assertEqual(Tree.read(str(grown(tree))), grown(tree))
            seen[k, told[2] > 0] = seen.get((k, told[2] > 0), 0) + 1
        self.assertEqual(len(seen), 6)

    def test_just_one_of_both(self):
        for chance in chances(80):
            k = chance.choice([1, 2])
            task = small_task(chance, k, 700, most_states=4, most_deeds=2, most_labels=2)
            tables = list_by_hand(task, k)
            self.assertIs(first_kept(task, k) is None, not tables)
            self.assertIs(refusal(task, k) is None, bool(tables))

    def test_the_first_play_of_a_leaf(self):
        # Several stands of one state: at the first answer both plays break at moment 1, the one of the first stand is told.
        world = World(["a", "b"], [("s", "r", [["s", "t"], ["s"]]), ("t", "r", [["t"], ["t"]])], ["s"])
        watch = Watch(["r"], ["b", "a"], [("x", [["broken", "y"]]), ("y", [["y", "broken"]])])
        task = Task(world, Blur.apart(["r"]), watch, [("t", "x"), ("s", "y"), ("s", "x")])
        self.assertEqual(str(refusal(task, 1).tree), "ask 1 r ( play y s / play x s )")
        task = task.changed(watch=watch, standing=[("t", "x"), ("s", "x")])
        self.assertEqual(str(refusal(task, 1).tree), "ask 1 r ( play x s s / play x s )")

    def test_depths(self):
        tree = refusal(chain_task(60, True), 1).tree
        self.assertEqual((tree.depth, len(tree)), (60, 1))
        self.fails(TooMany("depth", 60), refusal, chain_task(61, True), 1)
        self.fails(TooMany("depth", 60), refusal, chain_task(200, True), 1)
        # Where a table holds there is no tree that could be too deep.
        self.assertIsNone(refusal(chain_task(200, False), 1))
        self.assertEqual(opened(chain_task(200, True), 1), (200, 1, 0))
        self.assertEqual(opened(chain_task(200, False), 1), (200, 0, 1))

    def test_many_leaves(self):
        # Ten deeds at each of five sights; only the last one breaks whatever is done: 100,000 leaves.
        labels = names("l", 6)
        states = names("s", 6)
        deeds = names("d", 10)
        world = World(deeds, [(state, label, [[after]] * 10) for state, label, after in
                              zip(states, labels, states[1:] + states[-1:])], ["s0"])
        blur = Blur({label: "l0" if label == "l5" else label for label in labels})
        task = Task(world, blur, never(labels, deeds, ["l5"]))
        self.assertEqual(choices(task, 1), 100000)
        self.assertEqual(opened(task, 1), (11111, 100000, 0))
        tree = refusal(task, 1).tree
        self.assertEqual((len(tree), tree.depth), (100000, 5))
        self.assertEqual(tree.parts[9][0].parts[0][0].parts[3][0].parts[0][0].parts[9][0], Leaf("w0", states))

    def test_errors(self):
        for call in (refusal, opened):
            for value in of_every_kind():
                if not isinstance(value, Task):
                    self.fails(BadTask("task"), call, value, value)
                if not (type(value) is int and 1 <= value <= 200):
                    self.fails(BadNumbers("k"), call, APART, value)
            self.fails(BadNumbers("k"), call, APART, 201)
            self.fails(TooMany("choices", 100000), call, APART, 200)
            self.fails(TooMany("choices", 100000), call, free_task(["a", "b", "c"], 11), 1)
        self.assertIsInstance(refusal(BY_TURNS, 1).tree, Need)
