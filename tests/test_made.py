from common import Case, chances, names, of_every_kind, random_world

from dimkeeper.blurs import Blur
from dimkeeper.errors import BadBlur, BadWorld, NoLabel, TooMany, Twice, Unlike
from dimkeeper.made import Made, beside, either, paired
from dimkeeper.worlds import World

COIN = World(("a", "b"), [("o", "r", (("o",), ("o",)))], ("o",))
CLOCK = World(("tick",), [("i", "one", (("j",),)), ("j", "two", (("i",),))], ("i",))
SIX = "a.b.c.d.e.f"


def flat(deeds=("d",), states=("s",), labels=None):
    labels = labels or ["l"] * len(states)
    rows = [(state, label, [[state]] * len(deeds)) for state, label in zip(states, labels)]
    return World(deeds, rows, [states[0]])


class MadeWorlds(Case):

    def test_example(self):
        first, second = beside(COIN, CLOCK)
        self.assertEqual([str(first.world), first.labels, second.deeds],
                         ["a.tick b.tick ; o.i r.one o.j r.two ; o.i ; o.j , o.j / o.i , o.i",
                          {"r.one": "r", "r.two": "r"}, {"a.tick": "tick", "b.tick": "tick"}])

    def test_made(self):
        world = flat(["e", "d"], ["s", "t"], ["m", "l"])
        made = Made(world, Blur.apart(["l", "m", "n"]), {"l": "x", "m": "y"}, {"d": "z", "e": "z"})
        self.assertEqual((made.world, made.blur), (world, Blur.apart(["l", "m", "n"])))
        self.assertEqual((list(made.labels.items()), list(made.deeds.items())),
                         ([("m", "y"), ("l", "x")], [("e", "z"), ("d", "z")]))
        self.assertIsNone(Made(world, None, {"l": "x", "m": "y"}, {"d": "z", "e": "z"}).blur)

    def test_bad_made(self):
        world = flat(["d"], ["s"], ["l"])
        blur = Blur.apart(["l"])
        for value in of_every_kind():
            if not isinstance(value, World):
                self.fails(BadWorld("world"), Made, value, 1, 1, 1)
            if value is not None and not isinstance(value, Blur):
                self.fails(BadBlur("blur"), Made, world, value, 1, 1)
            self.fails(BadWorld("labels"), Made, world, blur, value, 1)
            self.fails(BadWorld("deeds"), Made, world, blur, {"l": "x"}, value)
            if value != "x":
                self.fails(BadWorld("labels"), Made, world, blur, {"l": value}, 1)
                self.fails(BadWorld("deeds"), Made, world, blur, {"l": "x"}, {"d": value})
        self.fails(BadWorld("labels"), Made, world, blur, {"l": "x", "m": "x"}, {"d": "x"})
        self.fails(BadWorld("deeds"), Made, world, blur, {"l": "x"}, {"d": "x", "e": "x"})
        self.fails(BadWorld("deeds"), Made, world, Blur.apart(["m"]), {"l": "x"}, {})
        self.fails(BadWorld("labels"), Made, world, blur, {"m": "x"}, {"d": "x"})
        self.fails(BadWorld("deeds"), Made, world, blur, {"l": "x"}, {"e": "x"})
        two = flat(["d"], ["s", "t", "u"], ["m", "l", "k"])
        self.fails(NoLabel("l"), Made, two, Blur.apart(["m"]), {"l": "x", "m": "x", "k": "x"}, {"d": "x"})

    def test_nothing_is_shared(self):
        labels, deeds = {"l": "x"}, {"d": "y"}
        made = Made(flat(), None, labels, deeds)
        labels["l"] = deeds["d"] = "z"
        labels["m"] = "z"
        self.assertEqual((made.labels, made.deeds), ({"l": "x"}, {"d": "y"}))

    def test_equality(self):
        world = flat()
        self.same([Made(world, None, {"l": "x"}, {"d": "y"}), Made(world, None, {"l": "y"}, {"d": "y"}),
                   Made(world, None, {"l": "x"}, {"d": "x"}), Made(world, Blur.apart(["l"]), {"l": "x"}, {"d": "y"}),
                   Made(world, Blur.alike(["l"]), {"l": "x"}, {"d": "y"}),
                   Made(flat(states=("t",)), None, {"l": "x"}, {"d": "y"})])
        self.assertEqual(Made(flat(), None, {"l": "x"}, {"d": "y"}), Made(flat(), None, {"l": "x"}, {"d": "y"}))

    def test_bad_pairs(self):
        for value in of_every_kind():
            for call in (either, beside):
                if not isinstance(value, World):
                    self.fails(BadWorld("one"), call, value, value)
                    self.fails(BadWorld("other"), call, COIN, value)
            if not isinstance(value, Blur):
                self.fails(BadBlur("one"), paired, value, value)
                self.fails(BadBlur("other"), paired, Blur.apart(["a"]), value)

    def test_either(self):
        one = World(["d", "e"], [("q", "l", [["p"], ["q", "p"]]), ("p", "m", [["q"], ["p"]])], ["p"])
        self.assertEqual(str(either(one, one.begun("q"))),
                         "d e ; q.one l p.one m q.two l p.two m ; p.one q.two ; "
                         "p.one , q.one p.one / q.one , p.one / p.two , q.two p.two / q.two , p.two")
        self.fails(Unlike("deeds"), either, flat(["d", "e"]), flat(["e", "d"]))
        self.fails(Unlike("deeds"), either, flat(["d", "e"]), flat(["d"]))
        self.fails(Unlike("deeds"), either, flat(["d"], [SIX]), flat(["e"]))
        self.fails(TooMany("stems", 6), either, flat(["d"], [SIX]), flat(["d"]))
        self.fails(TooMany("stems", 6), either, flat(["d"]), flat(["d"], [SIX]))
        self.assertEqual(len(either(flat(states=names("s", 100)), flat(states=names("s", 100)))), 200)
        self.fails(TooMany("states", 200), either, flat(states=names("s", 101)), flat(states=names("s", 100)))
        self.fails(TooMany("stems", 6), either, flat(states=names("s", 199) + [SIX]), flat(states=names("s", 100)))
        self.assertEqual(either(flat(["d"], ["a.b.c.d.e"]), flat(["d"])).states, ("a.b.c.d.e.one", "s.two"))

    def test_beside_by_hand(self):
        for chance in chances(40):
            one, other = random_world(chance, 4, 3), random_world(chance, 4, 3)
            first, second = beside(one, other)
            world = first.world
            self.assertEqual(world, second.world)
            self.assertEqual((first.blur, second.blur), (None, None))
            self.assertEqual(world.states, tuple(f"{s}.{t}" for s in one for t in other))
            self.assertEqual(world.deeds, tuple(sorted(f"{d}.{e}" for d in one.deeds for e in other.deeds)))
            self.assertEqual(set(world.starts), {f"{s}.{t}" for s in one.starts for t in other.starts})
            self.assertEqual(list(first.labels), list(world.labels))
            self.assertEqual(list(second.deeds), list(world.deeds))
            for s in one:
                for t in other:
                    label = f"{one.label_of(s)}.{other.label_of(t)}"
                    self.assertEqual(world.label_of(f"{s}.{t}"), label)
                    self.assertEqual((first.labels[label], second.labels[label]), (one.label_of(s), other.label_of(t)))
                    for d in one.deeds:
                        for e in other.deeds:
                            told = {f"{p}.{q}" for p in one.nexts(s, d) for q in other.nexts(t, e)}
                            self.assertEqual(set(world.nexts(f"{s}.{t}", f"{d}.{e}")), told)
                            self.assertEqual((first.deeds[f"{d}.{e}"], second.deeds[f"{d}.{e}"]), (d, e))

    def test_beside_of_unlike_orders(self):
        first, second = beside(flat(["z", "a"], ["s"]), flat(["y", "b"], ["t"]))
        self.assertEqual(first.world.deeds, ("a.b", "a.y", "z.b", "z.y"))
        self.assertEqual(list(second.deeds.items()), [("a.b", "b"), ("a.y", "y"), ("z.b", "b"), ("z.y", "y")])

    def test_beside_errors(self):
        self.fails(TooMany("stems", 6), beside, flat([SIX]), flat())
        self.fails(TooMany("stems", 6), beside, flat(), flat(["d"], ["s"], [SIX]))
        self.fails(TooMany("stems", 6), beside, flat(["a.b.c"]), flat(["a.b.c.d"]))
        self.fails(Twice("a.b.c"), beside, flat(["a", "a.b"]), flat(["c", "b.c"]))
        self.fails(Twice("a.b.c"), beside, flat(["d"], ["a", "a.b"]), flat(["d"], ["c", "b.c"]))
        self.fails(Twice("a.b.c"), beside, flat(["d"], ["s", "t"], ["a", "a.b"]), flat(["d"], ["s", "t"], ["c", "b.c"]))
        # The deeds come ahead of the states, these of the labels, and sizes come last.
        twice = (["a", "a.b"], ["c", "b.c"])
        self.fails(Twice("a.b.c"), beside, flat(twice[0], [SIX]), flat(twice[1]))
        self.fails(TooMany("stems", 6), beside, flat(["d", SIX], twice[0]), flat(["d"], twice[1]))
        self.fails(Twice("a.b.c"), beside, flat(["d"], twice[0], [SIX, "l"]), flat(["d"], twice[1]))
        self.fails(TooMany("stems", 6), beside, flat(names("d", 12), ["s"], [SIX]), flat(names("d", 12)))
        self.fails(TooMany("deeds", 12), beside, flat(names("d", 7), names("s", 200)), flat(names("d", 2), names("s", 2)))
        self.fails(TooMany("states", 200), beside, flat(names("d", 6), names("s", 67)), flat(names("d", 2), names("s", 3)))
        first, _ = beside(flat(names("d", 6), names("s", 100)), flat(names("d", 2), names("s", 2)))
        self.assertEqual((len(first.world), len(first.world.deeds)), (200, 12))

    def test_the_first_name_that_comes_twice(self):
        # In the order of the states b.x.y comes twice ahead of a.x.y; ascending it is the other way round.
        one, other = ["b", "b.x", "a", "a.x"], ["x.y", "y"]
        self.fails(Twice("b.x.y"), beside, flat(["d"], one), flat(["d"], other))
        self.fails(Twice("a.x.y"), beside, flat(one), flat(other))

    def test_the_first_label_and_sight_of_a_blur_that_come_twice(self):
        # The labels and the sights of a blur are ascending; told pair by pair a.b.d would be the first one.
        one, other = ["a", "a.b", "a.b.c"], ["b.d", "d", "c.c", "c"]
        self.fails(Twice("a.b.c.c"), paired, Blur.apart(one), Blur.apart(other))
        self.fails(Twice("a.b.c.c"), paired, Blur(dict(zip(["k", "l", "m"], one))), Blur(dict(zip(["k", "l", "m", "n"], other))))

    def test_paired(self):
        blur = paired(Blur({"a": "u", "b": "u"}), Blur({"c": "x", "d": "y"}))
        self.assertEqual(str(blur), "a.c u.x a.d u.y b.c u.x b.d u.y")
        self.fails(TooMany("stems", 6), paired, Blur.apart([SIX]), Blur.apart(["a"]))
        self.fails(TooMany("stems", 6), paired, Blur.alike(["a"], SIX), Blur.apart(["a"]))
        self.fails(Twice("a.b.c"), paired, Blur.alike(["a", "a.b"], SIX), Blur.alike(["c", "b.c"]))
        self.fails(Twice("a.b.c"), paired, Blur({"k": "a", "l": "a.b"}), Blur({"m": "c", "n": "b.c"}))
        self.fails(TooMany("stems", 6), paired, Blur.alike(["a"], SIX), Blur({"m": "c", "n": "b.c"}))
        self.assertEqual(len(paired(Blur.apart(names("a", 20)), Blur.apart(names("b", 10)))), 200)
        self.fails(TooMany("labels", 200), paired, Blur.apart(names("a", 67)), Blur.apart(names("b", 3)))
