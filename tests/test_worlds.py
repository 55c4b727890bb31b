from common import Case, chances, names, of_every_kind, random_world

from dimkeeper.errors import BadText, BadWorld, NoDeed, NoState, TooMany
from dimkeeper.worlds import World

DRIFT = "left right ; p l q r x x ; p q ; p , x / x , q / x , x"


def drift():
    return World(("left", "right"), [("p", "l", (("p",), ("x",))), ("q", "r", (("x",), ("q",))),
                                     ("x", "x", (("x",), ("x",)))], ("q", "p"))


def chain(many, deeds=("d",)):
    states = names("s", many)
    return World(deeds, [(state, "l", [[states[(at + 1) % many]]] * len(deeds)) for at, state in enumerate(states)],
                 [states[0]])


class Worlds(Case):

    def test_example(self):
        world = drift()
        self.assertEqual([str(world), world.starts, world.labels, world.nexts("p", "right")],
                         [DRIFT, ("p", "q"), ("l", "r", "x"), ("x",)])
        self.fails(BadText(0, 8), World.read, "a ; p l q l ; q p ; p / q")

    def test_attributes(self):
        world = World(["b", "a"], [["z", "m", [["y", "z"], ["y"]]], ("y", "l", (["z"], ("z", "y"))),
                                   ("w", "m", (["z", "y", "w"], ["w"]))], ["y", "z"])
        self.assertEqual((world.deeds, world.states, world.starts, world.labels),
                         (("b", "a"), ("z", "y", "w"), ("z", "y"), ("m", "l")))
        self.assertEqual([world.label_of(state) for state in world], ["m", "l", "m"])
        self.assertEqual([world.nexts(state, deed) for state in world for deed in world.deeds],
                         [("z", "y"), ("y",), ("z",), ("z", "y"), ("z", "y", "w"), ("w",)])
        self.assertEqual((World.MOST_DEEDS, World.MOST_STATES), (12, 200))

    def test_bad_deeds(self):
        rows = [("s", "l", [["s"]])]
        for value in of_every_kind() + [["A"], ["a", "b", "a"], "d", {"d": "d"}]:
            if value != ["a", "b"]:
                self.fails(BadWorld("deeds"), World, value, rows, ["s"])
                self.fails(BadWorld("deeds"), World, value, None, None)
        for value in of_every_kind():
            if value != "x" and value != []:
                self.fails(BadWorld("deeds"), World, ["d", value], rows, ["s"])

    def test_bad_states(self):
        for value in of_every_kind():
            self.fails(BadWorld("states"), World, ["d"], value, None)
            self.fails(BadWorld("states"), World, ["d"], [("s", "l", [["s"]]), value], None)
            if value != "x":
                self.fails(BadWorld("states"), World, ["d"], [("s", value, [["s"]])], None)
                self.fails(BadWorld("states"), World, ["d"], [(value, "l", [["s"]])], None)
        for rows in ([("s", "l")], [("s", "l", [["s"]], 1)], [("s", "l", [["s"]])] * 2, {"s": ("l", [["s"]])},
                     [("s", "l", [["s"]]), ("t", "l", [["s"]]), ("s", "m", [["s"]])], ["slx"]):
            self.fails(BadWorld("states"), World, ["d"], rows, ["s"])

    def test_bad_nexts(self):
        for value in of_every_kind():
            self.fails(BadWorld("next"), World, ["d"], [("s", "l", value)], None)
            self.fails(BadWorld("next"), World, ["d"], [("s", "l", [value])], None)
            self.fails(BadWorld("next"), World, ["d"], [("s", "l", [[value]])], None)
            self.fails(BadWorld("next"), World, ["d"], [("s", "l", [["s", value]])], None)
        for nexts in ([["s"], ["s"]], [["s", "s"]], [["t"]], ["s"], [[]], [], {"d": ["s"]}):
            self.fails(BadWorld("next"), World, ["d"], [("s", "l", [["s"]]), ("u", "l", nexts)], [])
        self.fails(BadWorld("next"), World, ["d", "e"], [("s", "l", [["s"]])], ["s"])

    def test_bad_starts(self):
        for value in of_every_kind():
            if value != ["x"]:
                self.fails(BadWorld("starts"), World, ["d"], [("s", "l", [["s"]])], value)
                self.fails(BadWorld("starts"), World, ["d"], [("s", "l", [["s"]])], ["s", value])
            if value != "x":
                self.fails(BadWorld("starts"), drift().begun, value)
                self.fails(BadWorld("starts"), drift().begun, "p", value)
        self.fails(BadWorld("starts"), World, ["d"], [("s", "l", [["s"]])], ["s", "s"])
        self.fails(BadWorld("starts"), drift().begun)
        self.fails(BadWorld("starts"), drift().begun, "p", "p")
        self.fails(BadWorld("starts"), drift().begun, ["p"])

    def test_sizes(self):
        self.assertEqual(len(chain(200, names("d", 12))), 200)
        self.fails(TooMany("deeds", 12), chain, 1, names("d", 13))
        self.fails(TooMany("states", 200), chain, 201)
        self.fails(TooMany("deeds", 12), chain, 201, names("d", 13))
        rows = [("s", "l", [["s"]] * 13)]
        self.fails(BadWorld("starts"), World, names("d", 13), rows, ["t"])
        self.fails(BadWorld("deeds"), World, names("d", 13) + ["d0"], rows, ["s"])

    def test_long_names(self):
        name = ".".join(["abcdefghijkl"] * 6)
        world = World([name], [(name, name, [[name]])], [name])
        self.reads(World, world)
        self.fails(BadWorld("deeds"), World, [name + ".a"], [(name, name, [[name]])], [name])
        self.fails(BadWorld("states"), World, [name], [(name + "a", name, [[name]])], [name])

    def test_label_of_and_nexts_of_any_values(self):
        world = drift()
        for value in of_every_kind():
            if value != "x":
                self.fails(NoState(value), world.label_of, value)
                self.fails(NoState(value), world.nexts, value, value)
                self.assertFalse(value in world)
            self.fails(NoDeed(value), world.nexts, "p", value)
        self.fails(NoState("broken"), world.nexts, "broken", "left")
        self.fails(NoDeed("up"), world.nexts, "p", "up")

    def test_begun_and_cut(self):
        world = drift()
        self.assertEqual(world.begun("x", "p").starts, ("p", "x"))
        self.assertEqual(str(world.begun("x")), "left right ; p l q r x x ; x ; p , x / x , q / x , x")
        self.assertEqual(str(world.begun("p").cut()), "left right ; p l x x ; p ; p , x / x , x")
        self.assertEqual(world.cut(), world)
        self.assertEqual(world.begun("x").cut().labels, ("x",))
        self.assertEqual(world, drift())

    def test_cut_by_hand(self):
        for chance in chances(60):
            world = random_world(chance)
            met = set(world.starts)
            for _ in world:
                met |= {after for state in met for deed in world.deeds for after in world.nexts(state, deed)}
            cut = world.cut()
            self.assertEqual(cut.states, tuple(state for state in world if state in met))
            self.assertEqual((cut.starts, cut.deeds), (world.starts, world.deeds))
            for state in cut:
                self.assertEqual(cut.label_of(state), world.label_of(state))
                for deed in cut.deeds:
                    self.assertEqual(cut.nexts(state, deed), world.nexts(state, deed))

    def test_states_of_a_world(self):
        world = drift()
        self.assertEqual((len(world), list(world), "p" in world, "l" in world), (3, ["p", "q", "x"], True, False))

    def test_equality(self):
        texts = [DRIFT, "right left ; p l q r x x ; p q ; p , x / x , q / x , x",
                 "left right ; q l p r x x ; q p ; q , x / x , p / x , x",
                 "left right ; p l q r x x ; p ; p , x / x , q / x , x",
                 "left right ; p l q r x l ; p q ; p , x / x , q / x , x",
                 "left right ; p l q r x x ; p q ; p q , x / x , q / x , x",
                 "left right ; q r p l x x ; q p ; x , q / p , x / x , x",
                 "right left ; p l q r x x ; p q ; x , p / q , x / x , x",
                 "left right ; p l x x q r ; p q ; p , x / x , x / x , q"]
        self.same([World.read(text) for text in texts])
        self.assertEqual(World.read(DRIFT), drift())
        self.assertEqual(World(["d"], [("s", "l", [["t", "s"]]), ("t", "l", [["s"]])], ["t", "s"]),
                         World(("d",), (("s", "l", (("s", "t"),)), ("t", "l", (("s",),))), ("s", "t")))

    def test_nothing_is_shared(self):
        deeds, nexts, starts = ["d"], [["s"]], ["s"]
        row = ["s", "l", nexts]
        rows = [row]
        world = World(deeds, rows, starts)
        before = str(world)
        deeds.append("e")
        nexts[0].append("t")
        row[1] = "m"
        rows.append(row)
        starts.clear()
        self.assertEqual(str(world), before)
        self.assertEqual((world.deeds, world.starts, world.nexts("s", "d")), (("d",), ("s",), ("s",)))

    def test_texts(self):
        for chance in chances(25):
            self.reads(World, random_world(chance))
        self.reads(World, chain(200))
        self.reads(World, chain(3, names("d", 12)))
        self.refuses_texts(World, DRIFT)
        self.bends(World, DRIFT)
        self.bends(World, "b a ; z m y l ; z y ; z y , y / y , z y")

    def test_words_that_cannot_stand(self):
        for text, word in [
                ("left left ; p l ; p ; p", 1), ("; p l ; p ; p", 0), ("a", 1), ("a ;", 2), ("a ; p", 3), ("a ; p l", 4),
                ("a ; ; p ; p", 2), ("a ; p ; p ; p", 3), ("a ; p l p l ; p ; p / p", 4), ("a ; p l ; q ; p", 5),
                ("a ; p l ; ; p", 5), ("a ; p l ; p p ; p", 6), ("a ; p l q l ; q p ; p / q", 8),
                ("a ; p l q l ; p q ; p / q", None), ("a ; p l q l ; p q ; q p / q", 11), ("a ; p l q l ; p ; q / q /", 12),
                ("a ; p l q l ; p ; q", 10), ("a ; p l q l ; p ; q , q / q", 10), ("a b ; p l ; p ; p / p", 9),
                ("a b ; p l ; p ; p , p , p", 11), ("a b ; p l ; p ; p ,", 10), ("a ; p l ; p ; p ;", 8),
                ("a ; p l ; p ; p p", 8), ("a ; p l ; p ; p", None), ("a ; p l ; p ; p ", 8), ("a ; p l ; p ;", 7),
                ("A ; p l ; p ; p", 0), ("a ; p L ; p ; p", 3), ("a ; p l ; p ; , p", 7), ("a ; p l ;  ; p", 5)]:
            if word is None:
                self.assertEqual(str(World.read(text)), text)
            else:
                self.fails(BadText(0, word), World.read, text)

    def test_texts_of_too_many(self):
        deeds = " ".join(names("d", 13))
        self.fails(BadText(0, 12), World.read, deeds + " ; s l ; s ; s")
        states = " ".join(f"{state} l" for state in names("s", 201))
        self.fails(BadText(0, 2 + 400), World.read, f"d ; {states} ; s0 ; s0")
        self.assertEqual(World.read(" ".join(names("d", 12)) + " ; s l ; s ; " + " , ".join("s" * 12)).deeds[11], "d11")
