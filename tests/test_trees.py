from common import Case, chances, names, of_every_kind

from dimkeeper.errors import BadText, BadTree, TooMany
from dimkeeper.papers import Paper
from dimkeeper.trees import Leaf, Need, Tree, leaves_of

LEAF, MORE = Leaf("w0", ["o"]), Leaf("w1", ("o", "p"))
ASKED = Need(1, "r", [[LEAF, MORE], [MORE]])


def deep(depth, tree=LEAF):
    for _ in range(depth):
        tree = Need(1, "r", [[tree]])
    return tree


def random_tree(chance, depth):
    if depth == 0 or chance.random() < 0.3:
        return Leaf(chance.choice(["w0", "play", "ask", "broken"]), [chance.choice(["o", "p.q", "ask", "play"])
                                                                     for _ in range(chance.randint(1, 3))])
    return Need(chance.randint(1, 200), chance.choice(["r", "s.t", "ask"]),
                [[random_tree(chance, depth - 1) for _ in range(chance.randint(1, 3))] for _ in range(chance.randint(1, 3))])


def leaves_by_hand(tree, deeds, above=()):
    if isinstance(tree, Leaf):
        return [(above, tree)]
    return [pair for deed, row in zip(deeds, tree.parts) for at, part in enumerate(row)
            for pair in leaves_by_hand(part, deeds, above + ((tree.page, tree.sight, deed, at + 1),))]


def depth_by_hand(tree):
    return 0 if isinstance(tree, Leaf) else 1 + max(depth_by_hand(part) for row in tree.parts for part in row)


def even_tree(chance, depth, rows):
    """A tree whose questions have so many rows each."""
    if depth == 0 or chance.random() < 0.2:
        return random_tree(chance, 0)
    return Need(chance.randint(1, 5), "r", [[even_tree(chance, depth - 1, rows) for _ in range(chance.randint(1, 2))]
                                            for _ in range(rows)])


class Trees(Case):

    def test_attributes(self):
        self.assertEqual((MORE.first, MORE.states, MORE.depth, len(MORE)), ("w1", ("o", "p"), 0, 1))
        self.assertEqual((ASKED.page, ASKED.sight, ASKED.parts, ASKED.depth, len(ASKED)),
                         (1, "r", ((LEAF, MORE), (MORE,)), 1, 3))
        self.assertTrue(isinstance(LEAF, Tree) and isinstance(ASKED, Tree))
        higher = Need(200, "s.t", ((ASKED,), [LEAF, deep(3)]))
        self.assertEqual((higher.depth, len(higher), higher.parts), (4, 5, ((ASKED,), (LEAF, deep(3)))))
        self.assertEqual(Need(parts=[[LEAF]], sight="r", page=1), deep(1))
        self.assertEqual(Leaf(states=["o"], first="w0"), LEAF)

    def test_equality(self):
        self.same([LEAF, MORE, Leaf("w0", ["o", "o"]), Leaf("w1", ["o"]), ASKED, Need(2, "r", [[LEAF, MORE], [MORE]]),
                   Need(1, "s", [[LEAF, MORE], [MORE]]), Need(1, "r", [[LEAF], [MORE, MORE]]), Need(1, "r", [[LEAF, MORE]]),
                   deep(1), deep(2)])
        self.assertEqual(Need(1, "r", ((Leaf("w0", ("o",)), MORE), (MORE,))), ASKED)

    def test_values_are_copied(self):
        states, row = ["o"], [LEAF]
        parts = [row]
        leaf, need = Leaf("w0", states), Need(1, "r", parts)
        states.append("p")
        row.append(LEAF)
        parts.append([LEAF])
        self.assertEqual((leaf.states, need.parts), (("o",), ((LEAF,),)))

    def test_texts(self):
        self.assertEqual(str(LEAF), "play w0 o")
        self.assertEqual(str(Need(1, "r", [[Leaf("w0", ["o", "o"])], [LEAF]])), "ask 1 r ( play w0 o o / play w0 o )")
        self.assertEqual(str(Need(12, "s.t", [[ASKED, LEAF]])),
                         "ask 12 s.t ( ask 1 r ( play w0 o | play w1 o p / play w1 o p ) | play w0 o )")
        for tree in (LEAF, MORE, ASKED, deep(60), Need(12, "s.t", [[ASKED, LEAF]]), Leaf("play", ["ask", "play"])):
            self.reads(Tree, tree)
        for chance in chances(60):
            self.reads(Tree, random_tree(chance, 3))
        self.assertIsInstance(Tree.read("play w0 o"), Leaf)
        self.assertIsInstance(Tree.read("ask 1 r ( play w0 o )"), Need)

    def test_bent_texts(self):
        for tree in (MORE, ASKED, Need(12, "s.t", [[ASKED, LEAF]])):
            self.bends(Tree, str(tree))
            self.refuses_texts(Tree, str(tree))
        for text, word in [("play", 1), ("play w0", 2), ("play W o", 1), ("play w0 /", 2), ("play w0 o /", 3), ("ask 0 r", 1),
                           ("ask 201 r", 1), ("ask 01 r", 1), ("ask 1 r play", 3), ("ask 1 r ( )", 4), ("ask 1 r ( play w0 o", 7),
                           ("ask 1 r ( play w0 o ) )", 8), ("ask 1 r ( play w0 o / )", 8), ("ask 1 r ( play w0 o , )", 7),
                           ("ask 1 r ( play w0 o ) play", 8), ("asks 1", 0), ("( play w0 o )", 0), ("ask 1 r ( play w0 |", 6)]:
            self.fails(BadText(0, word), Tree.read, text)

    def test_texts_too_deep(self):
        ahead, behind = "ask 1 r ( " * 60, " )" * 60
        self.assertEqual(Tree.read(ahead + "play w0 o" + behind), deep(60))
        self.fails(BadText(0, 240), Tree.read, ahead + "ask 1 r ( play w0 o )" + behind)
        self.fails(BadText(0, 240), Tree.read, ahead + "ask")
        self.fails(BadText(0, 240 + 4), Tree.read, ahead + "play w0 o | ask 1 r ( play w0 o )" + behind)

    def test_texts_with_many_leaves(self):
        whole = "ask 1 r ( " + " | ".join(["play w o"] * 100000) + " )"
        self.assertEqual(len(Tree.read(whole)), 100000)
        # Each leaf has three words and a mark behind it: the mark behind the last one that can stand is no mark more.
        self.fails(BadText(0, 4 + 4 * 100000 - 1), Tree.read, whole[:-1] + "/ play w o )")
        half = "ask 1 r ( " + " | ".join(["play w o"] * 50000) + " )"
        self.fails(BadText(0, 4 + 2 * (4 + 4 * 50000 + 1) - 1), Tree.read, f"ask 1 r ( {half} / {half} | play w o )")

    def test_sizes(self):
        self.assertEqual(deep(60).depth, 60)
        self.fails(TooMany("depth", 60), Need, 1, "r", [[LEAF], [LEAF, deep(60)]])
        self.assertEqual(len(Need(1, "r", [[LEAF] * 100000])), 100000)
        thousand = Need(1, "r", [[LEAF] * 1000])
        self.assertEqual(len(Need(1, "r", [[thousand] * 50, [thousand] * 50])), 100000)
        self.fails(TooMany("leaves", 100000), Need, 1, "r", [[thousand] * 50, [thousand] * 50, [LEAF]])
        self.fails(TooMany("depth", 60), Need, 1, "r", [[thousand] * 101, [deep(60)]])
        self.assertEqual(Need(200, "r", [[LEAF]]).page, 200)

    def test_wrong_parts(self):
        for value in of_every_kind():
            if not isinstance(value, str) or value != "x":
                self.fails(BadTree("first"), Leaf, value, value)
                self.fails(BadTree("states"), Leaf, "w0", ["o", value])
                self.fails(BadTree("sight"), Need, 1, value, value)
            if value not in (["a", "a"],):
                self.fails(BadTree("states"), Leaf, "w0", value)
            if not (type(value) is int and value == 1):
                self.fails(BadTree("page"), Need, value, value, value)
            for parts in (value, [value], [[value]], [[LEAF], value], [[LEAF, value]]):
                self.fails(BadTree("parts"), Need, 1, "r", parts)
            self.fails(BadTree("tree"), lambda told: list(leaves_of(told, told)), value)
        for page in (0, 201, -1, True):
            self.fails(BadTree("page"), Need, page, "r", [[LEAF]])
        self.fails(BadTree("states"), Leaf, "w0", "o")
        self.fails(BadTree("states"), Leaf, "w0", ("o", "O"))
        self.fails(BadTree("parts"), Need, 1, "r", [LEAF])
        self.fails(BadTree("parts"), Need, 1, "r", [[LEAF], [Paper("leaf")]])
        self.fails(BadTree("parts"), Need, 1, "r", [[deep(60)], []])

    def test_leaves(self):
        self.assertEqual(list(leaves_of(ASKED, ["a", "b"])), [(((1, "r", "a", 1),), LEAF), (((1, "r", "a", 2),), MORE),
                                                              (((1, "r", "b", 1),), MORE)])
        for deeds in ([], ["a"], names("d", 5)):
            self.assertEqual(list(leaves_of(LEAF, deeds)), [((), LEAF)])
        for chance in chances(60):
            rows = chance.randint(1, 3)
            tree, deeds = even_tree(chance, 3, rows), names("d", rows)
            told = leaves_by_hand(tree, deeds)
            self.assertEqual(list(leaves_of(tree, tuple(deeds))), told)
            self.assertEqual((len(tree), tree.depth), (len(told), depth_by_hand(tree)))
            self.assertEqual(max(len(above) for above, _ in told), tree.depth)
            if not isinstance(tree, Leaf):
                self.fails(BadTree("deeds"), lambda *told: list(leaves_of(*told)), tree, deeds + ["e"])
                self.fails(BadTree("deeds"), lambda *told: list(leaves_of(*told)), tree, deeds[1:])
        for value in of_every_kind():
            if value not in ([], (), ["a", "a"]):
                self.fails(BadTree("deeds"), lambda told: list(leaves_of(LEAF, told)), value)
            if value != ["a", "a"]:
                self.fails(BadTree("deeds"), lambda told: list(leaves_of(ASKED, told)), value)
            if value != "x":
                self.fails(BadTree("deeds"), lambda told: list(leaves_of(ASKED, ["a", told])), value)
        # Some question has another number of rows.
        self.fails(BadTree("deeds"), lambda told: list(leaves_of(Need(1, "r", [[LEAF], [deep(1)]]), told)), ["a", "b"])
        self.assertEqual(len(list(leaves_of(deep(60), ["a"]))[0][0]), 60)
