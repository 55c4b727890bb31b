import itertools

from common import Case, chances, names, of_every_kind

from dimkeeper.blurs import Blur, blurs_of, is_finer
from dimkeeper.errors import BadBlur, BadText, NoLabel, NoSight, TooMany, Unlike


class Blurs(Case):

    def test_example(self):
        dim = Blur({"r": "u", "l": "u", "x": "x"})
        self.assertEqual([str(dim), dim.sights, dim.labels_of("u"), is_finer(Blur.apart(dim.labels), dim),
                          is_finer(dim, Blur.apart(dim.labels))], ["l u r u x x", ("u", "x"), ("l", "r"), True, False])
        self.assertEqual(list(map(str, blurs_of(("c", "a", "b")))),
                         ["a a b a c a", "a a b a c c", "a a b b c a", "a a b b c b", "a a b b c c"])

    def test_attributes(self):
        blur = Blur({"b": "z", "a.b": "y", "a": "z", "a0": "y"})
        self.assertEqual((blur.labels, blur.sights), (("a", "a.b", "a0", "b"), ("y", "z")))
        self.assertEqual([blur.sight_of(label) for label in blur], ["z", "y", "y", "z"])
        self.assertEqual([blur.labels_of(sight) for sight in blur.sights], [("a.b", "a0"), ("a", "b")])
        self.assertEqual((len(blur), list(blur), "a" in blur, "z" in blur, Blur.MOST),
                         (4, ["a", "a.b", "a0", "b"], True, False, 200))

    def test_bad_shown(self):
        for value in of_every_kind():
            self.fails(BadBlur("shown"), Blur, value) if value != {"a": "x"} else None
            if value != "x":
                self.fails(BadBlur("shown"), Blur, {"a": value})
            if isinstance(value, (int, str, bytes, type(None), float)) and value != "x":
                self.fails(BadBlur("shown"), Blur, {"a": "b", value: "b"})
        self.fails(BadBlur("shown"), Blur, [("a", "b")])

    def test_sizes(self):
        self.assertEqual(len(Blur({name: "s" for name in names("l", 200)})), 200)
        self.fails(TooMany("labels", 200), Blur, {name: "s" for name in names("l", 201)})
        self.fails(BadBlur("shown"), Blur, {name: "S" for name in names("l", 201)})
        for make in (Blur.apart, Blur.alike, lambda labels: Blur.alike(labels, "s")):
            self.assertEqual(len(make(names("l", 200))), 200)
            self.fails(TooMany("labels", 200), make, names("l", 201))
        self.fails(BadBlur("sight"), Blur.alike, names("l", 201), "S")
        self.fails(BadBlur("labels"), Blur.alike, names("l", 201) + ["l0"], "S")

    def test_apart_and_alike(self):
        self.assertEqual(str(Blur.apart(("b", "a"))), "a a b b")
        self.assertEqual(str(Blur.alike(["b", "a"])), "a dark b dark")
        self.assertEqual(str(Blur.alike(["b", "a"], "s")), "a s b s")
        self.assertEqual(str(Blur.alike(["b", "a"], sight="s")), "a s b s")
        for value in of_every_kind():
            for make in (Blur.apart, Blur.alike, lambda labels: Blur.alike(labels, None), lambda labels: list(blurs_of(labels))):
                self.fails(BadBlur("labels"), make, value)
            if value != "x":
                self.fails(BadBlur("sight"), Blur.alike, ["a"], value)
                self.fails(BadBlur("labels"), Blur.apart, ["a", value])

    def test_any_values(self):
        blur = Blur({"a": "s"})
        for value in of_every_kind():
            self.fails(NoLabel(value), blur.sight_of, value)
            self.fails(NoSight(value), blur.labels_of, value)
            self.assertFalse(value in blur)
        self.fails(NoLabel("s"), blur.sight_of, "s")
        self.fails(NoSight("a"), blur.labels_of, "a")

    def test_equality(self):
        self.same([Blur({"a": "s"}), Blur({"a": "t"}), Blur({"b": "s"}), Blur({"a": "s", "b": "s"})])
        self.assertEqual(Blur({"a": "s", "b": "t"}), Blur({"b": "t", "a": "s"}))
        self.assertNotEqual(Blur({"a": "s"}), {"a": "s"})

    def test_nothing_is_shared(self):
        shown = {"a": "s"}
        blur = Blur(shown)
        shown["b"] = "t"
        shown["a"] = "t"
        self.assertEqual(str(blur), "a s")
        labels = ["a"]
        apart = Blur.apart(labels)
        labels.append("b")
        self.assertEqual(apart, Blur({"a": "a"}))

    def test_is_finer(self):
        fine, coarse = Blur({"a": "x", "b": "y", "c": "z"}), Blur({"a": "u", "b": "u", "c": "v"})
        other = Blur({"a": "u", "b": "v", "c": "v"})
        self.assertEqual([is_finer(one, two) for one in (fine, coarse, other) for two in (fine, coarse, other)],
                         [True, True, True, False, True, False, False, False, True])
        self.assertTrue(is_finer(fine, Blur({"a": "z", "b": "y", "c": "x"})))
        self.fails(Unlike("labels"), is_finer, fine, Blur({"a": "u", "b": "u"}))
        self.fails(Unlike("labels"), is_finer, Blur({"a": "u", "b": "u"}), fine)
        for value in of_every_kind():
            if not isinstance(value, Blur):
                self.fails(BadBlur("one"), is_finer, value, value)
                self.fails(BadBlur("other"), is_finer, fine, value)

    def test_is_finer_by_hand(self):
        for chance in chances(80):
            labels = names("l", 4)
            one, two = [Blur({label: chance.choice("abc") for label in labels}) for _ in range(2)]
            told = all(two.sight_of(a) == two.sight_of(b) for a in labels for b in labels
                       if one.sight_of(a) == one.sight_of(b))
            self.assertIs(is_finer(one, two), told)

    def test_blurs_of(self):
        self.assertEqual([len(list(blurs_of(names("l", many)))) for many in range(1, 6)], [1, 2, 5, 15, 52])
        self.fails(TooMany("labels", 5), lambda: list(blurs_of(names("l", 6))))
        labels = ["e", "b", "d", "a", "c"]
        found = []
        for sights in itertools.product(sorted(labels), repeat=5):
            shown = dict(zip(sorted(labels), sights))
            if all(shown[label] == min(other for other in labels if shown[other] == shown[label]) for label in labels):
                found.append((len(set(sights)), sights))
        told = [tuple(blur.sight_of(label) for label in sorted(labels)) for blur in blurs_of(labels)]
        self.assertEqual(told, [sights for many, sights in sorted(found)])
        labels.clear()

    def test_texts(self):
        for chance in chances(30):
            labels = chance.sample(["a", "b", "a.b", "a0", "b.c.d.e.f.g", "zz"], chance.randint(1, 6))
            self.reads(Blur, Blur({label: chance.choice(["a", "s.t"]) for label in labels}))
        self.reads(Blur, Blur.apart(names("l", 200)))
        self.refuses_texts(Blur, "a s b t")
        self.bends(Blur, "a s b t c s")
        for text, word in [("a", 1), ("a s b", 3), ("b s a s", 2), ("a s a t", 2), ("a S", 1), ("A s", 0), ("a s ;", 2),
                           ("a s b ;", 3), ("a s a0 s a.b s", 4)]:
            self.fails(BadText(0, word), Blur.read, text)
        many = sorted(names("l", 201))
        self.fails(BadText(0, 400), Blur.read, " ".join(f"{label} s" for label in many))
        self.fails(BadText(0, 400), Blur.read, " ".join(f"{label} s" for label in many[:200]) + " Z")
