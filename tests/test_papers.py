from common import Case, Thing, of_every_kind, other_class

from dimkeeper.covers import Uncovered
from dimkeeper.forced import Held, Lost
from dimkeeper.implied import Apart, Implied
from dimkeeper.judged import Safe, Unsafe
from dimkeeper.papers import Denial, Paper, fixed

KINDS = [(Safe, "safe", ["stands"], True), (Unsafe, "unsafe", ["states", "deeds"], False),
         (Implied, "implied", ["pairs"], True), (Apart, "apart", ["reading", "ring"], False),
         (Held, "held", ["pages", "entries"], True), (Lost, "lost", ["number", "ranked", "kept"], False),
         (Uncovered, "uncovered", ["page", "sight"], False)]


class Papers(Case):

    def test_example(self):
        self.assertEqual([fixed([1, {"b": [2], "a": None}]), bool(Paper("note", [1])), bool(Denial("note")),
                          Paper("note", [1]) == Paper("note", (1,)), Paper("note", 1) == Denial("note", 1)],
                         [(1, (("a", None), ("b", (2,)))), True, False, True, False])

    def test_fixed(self):
        self.assertEqual(fixed({2: {"z": [], "a": {}}, -1: [[{}]]}), ((-1, (((),),)), (2, (("a", ()), ("z", ())))))
        thing = Thing()
        self.assertIs(fixed(thing), thing)
        self.assertEqual(fixed([thing, {1}]), (thing, {1}))
        self.assertEqual(fixed("ab"), "ab")
        self.assertIs(fixed(True), True)
        deep = 7
        for at in range(60):
            deep = [deep] if at % 3 == 0 else (deep,) if at % 3 == 1 else {"k": deep}
        self.assertIsInstance(fixed(deep), tuple)

    def test_nothing_is_shared(self):
        inner, told = [1], {"k": [2]}
        paper = Paper("note", inner, told)
        inner.append(5)
        told["k"].append(5)
        told["j"] = 5
        self.assertEqual(paper.parts, ((1,), (("k", (2,)),)))
        self.assertEqual(inner, [1, 5])

    def test_attributes(self):
        paper = Paper("note", [1], "x")
        self.assertEqual((paper.word, paper.parts), ("note", ((1,), "x")))
        self.assertEqual((Paper("note").parts, Denial("no", None).parts), ((), (None,)))
        self.assertIsInstance(Denial("no"), Paper)
        self.assertIs(bool(Paper("note", 0)), True)
        self.assertIs(bool(Denial("no", 1)), False)

    def test_equality(self):
        self.same([Paper("note"), Paper("note", None), Paper("other"), Denial("note"), Denial("note", None),
                   Paper("note", [[1], 2]), Paper("note", [1], 2), Paper("held", (), ()), Held((), ()),
                   Safe(()), Implied(()), Apart((), 0), Unsafe((), ()), Denial("unsafe", (), ())])
        self.assertEqual(Paper("note", 1), Paper("note", True))
        self.assertEqual(Paper("note", Paper("in", [1])), Paper("note", Paper("in", (1,))))
        self.assertNotEqual(Paper("note", Paper("in", [1])), Paper("note", Paper("in", [2])))

    def test_kinds(self):
        for kind, word, fields, truth in KINDS:
            values = [[at, {"k": [at]}] for at, field in enumerate(fields)]
            by_place = kind(*values)
            by_name = kind(**dict(zip(fields, values)))
            for paper in (by_place, by_name):
                self.assertEqual(paper.word, word)
                self.assertEqual(paper.parts, fixed(values))
                self.assertEqual([getattr(paper, field) for field in fields], list(fixed(values)))
                self.assertIs(bool(paper), truth)
                self.assertIsInstance(paper, Paper if truth else Denial)
                self.assertEqual(isinstance(paper, Denial), not truth)
            self.assertEqual(by_place, by_name)
            self.assertNotEqual(by_place, Paper(word, *values))
            self.assertNotEqual(by_place, Denial(word, *values))
            self.assertNotEqual(Paper(word, *values), by_place)

    def test_papers_are_made_of_any_values(self):
        for kind, word, fields, truth in KINDS:
            for value in of_every_kind():
                if isinstance(value, dict) and None in value:
                    continue
                paper = kind(*[value] * len(fields))
                self.assertEqual(paper.parts, tuple([fixed(value)] * len(fields)))

    def test_a_class_below_is_another_class(self):
        class Lower(Held):
            pass
        self.assertFalse(Lower((), ()) == Held((), ()))
        self.assertFalse(Held((), ()) == Lower((), ()))
        self.assertFalse(Held((), ()) == other_class("Held", word="held", parts=((), ())))
