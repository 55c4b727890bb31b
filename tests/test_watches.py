from common import Case, chances, names, of_every_kind, random_watch

from dimkeeper.errors import BadText, BadWatch, NoDeed, NoLabel, NoWatchState, TooMany
from dimkeeper.watches import Watch

TEXT = "r s ; a b ; w0 w1 ; w0 w1 , w0 broken / w0 broken , w1 w1"


def plain(labels=("l",), deeds=("d",), states=("w",)):
    return Watch(labels, deeds, [(state, [[states[0]] * len(deeds)] * len(labels)) for state in states])


def place_by_hand(watch, pairs):
    place = watch.first
    for label, deed in pairs:
        place = "broken" if place == "broken" else watch.place_of(place, label, deed)
    return place


class Watches(Case):

    def test_example(self):
        w = Watch.read(TEXT)
        self.assertEqual((w.place_of("w0", "s", "b"), w.after([("r", "b"), ("s", "a")]),
                          w.broken_at([("r", "b"), ("r", "b"), ("s", "a")])), ("broken", "w1", 1))

    def test_attributes(self):
        watch = Watch(["s", "r"], ("b", "a", "c"), [["k", [["j", "k", "broken"], ("k", "k", "k")]],
                                                    ("j", ((["j", "j", "j"], ["broken", "k", "j"])))])
        self.assertEqual((watch.labels, watch.deeds, watch.states, watch.first, Watch.BROKEN, watch.BROKEN),
                         (("s", "r"), ("b", "a", "c"), ("k", "j"), "k", "broken", "broken"))
        self.assertEqual([watch.place_of(state, label, deed) for state in watch for label in watch.labels
                          for deed in watch.deeds],
                         ["j", "k", "broken", "k", "k", "k", "j", "j", "j", "broken", "k", "j"])
        self.assertEqual((len(watch), list(watch), "j" in watch, "broken" in watch, "r" in watch),
                         (2, ["k", "j"], True, False, False))

    def test_labels_and_deeds_may_be_called_broken(self):
        watch = plain(["broken"], ["broken"])
        self.assertEqual(watch.place_of("w", "broken", "broken"), "w")
        self.reads(Watch, watch)

    def test_bad_parts(self):
        for value in of_every_kind() + [["a", "b", "a"], ["A"]]:
            self.fails(BadWatch("labels"), Watch, value, value, value)
            self.fails(BadWatch("deeds"), Watch, ["l"], value, value)
            self.fails(BadWatch("states"), Watch, ["l"], ["d"], value)
            if not (isinstance(value, (list, tuple)) and len(value) == 2 and value[0] == "a"):
                self.fails(BadWatch("states"), Watch, ["l"], ["d"], [("w", [["w"]]), value])
            self.fails(BadWatch("places"), Watch, ["l"], ["d"], [("w", value)])
            self.fails(BadWatch("places"), Watch, ["l"], ["d"], [("w", [value])])
            self.fails(BadWatch("places"), Watch, ["l"], ["d"], [("w", [[value]])])
            if value != "x":
                self.fails(BadWatch("labels"), Watch, ["l", value], ["d"], 1)
                self.fails(BadWatch("deeds"), Watch, ["l"], ["d", value], 1)
                self.fails(BadWatch("states"), Watch, ["l"], ["d"], [(value, [["w"]])])
        for states in ([("w", [["w"]])] * 2, [("broken", [["broken"]])], [("w",)], [("w", [["w"]], 1)],
                       {"w": [["w"]]}, ["ww"]):
            self.fails(BadWatch("states"), Watch, ["l"], ["d"], states)
        for places in ([], [[]], [["w", "w"]], [["w"], ["w"]], ["w"], [["v"]], [["l"]], {"l": ["w"]}):
            self.fails(BadWatch("places"), Watch, ["l"], ["d"], [("w", places)])
            self.fails(BadWatch("places"), Watch, ["l"], ["d"], [("w", [["w"]]), ("u", places)])

    def test_sizes(self):
        self.assertEqual(len(plain(names("l", 200)).labels), 200)
        self.assertEqual(len(plain(deeds=names("d", 12)).deeds), 12)
        self.assertEqual(len(plain(states=names("w", 200))), 200)
        self.fails(TooMany("labels", 200), plain, names("l", 201), names("d", 13), names("w", 201))
        self.fails(TooMany("deeds", 12), plain, names("l", 200), names("d", 13), names("w", 201))
        self.fails(TooMany("states", 200), plain, names("l", 2), names("d", 12), names("w", 201))
        self.fails(BadWatch("places"), Watch, names("l", 201), ["d"], [("w", [["w"]])])

    def test_place_of_any_values(self):
        watch = plain()
        for value in of_every_kind() + ["broken"]:
            self.fails(NoWatchState(value), watch.place_of, value, value, value)
            self.fails(NoLabel(value), watch.place_of, "w", value, value)
            self.fails(NoDeed(value), watch.place_of, "w", "l", value)
            self.fails(NoWatchState(value), watch.begun, value)
            self.assertFalse(value in watch)

    def test_readings(self):
        for chance in chances(60):
            watch = random_watch(chance, names("l", 2), names("d", 2))
            reading = [(chance.choice(watch.labels), chance.choice(watch.deeds)) for _ in range(chance.randint(0, 6))]
            self.gives(place_by_hand(watch, reading), watch.after, reading)
            self.gives(place_by_hand(watch, reading), watch.after, tuple(list(pair) for pair in reading))
            broken = [at for at in range(len(reading)) if place_by_hand(watch, reading[:at + 1]) == "broken"]
            self.gives(broken[0] if broken else None, watch.broken_at, reading)
        self.assertEqual((plain().after([]), plain().after(()), plain().broken_at([])), ("w", "w", None))

    def test_bad_readings(self):
        watch = Watch.read(TEXT)
        for call in (watch.after, watch.broken_at):
            for value in of_every_kind():
                if value != [] and value != ():
                    self.fails(BadWatch("reading"), call, value) if value != [[], []] else None
                if not (isinstance(value, (list, tuple)) and len(value) == 2):
                    self.fails(BadWatch("reading"), call, [("r", "b"), value])
                self.fails(NoLabel(value), call, [("r", "b"), ("r", "b"), (value, value)])
                self.fails(NoDeed(value), call, [("r", "b"), ("r", "b"), ("s", value)])
            self.fails(BadWatch("reading"), call, [("z", "b"), ("r",)])
            self.fails(BadWatch("reading"), call, ["rb"])
            self.fails(NoDeed("r"), call, [("r", "r"), ("z", "b")])
            self.fails(NoLabel("z"), call, [("r", "b"), ("z", "z"), ("r", "z")])

    def test_reached(self):
        watch = Watch.read("r s ; a b ; x y z u ; x z , broken y / y y , y y / z x , u broken / u u , u u")
        self.assertEqual(watch.reached(), ("x", "z", "y", "u"))
        self.assertEqual(watch.begun("y").reached(), ("y",))
        self.assertEqual(watch.begun("u").reached(), ("u",))
        self.assertEqual(Watch.read("r ; a ; x y ; broken / x").reached(), ("x",))

    def test_reached_by_hand(self):
        for chance in chances(60):
            watch = random_watch(chance, names("l", 2), names("d", 2), 6)
            met = [watch.first]
            for state in met:
                for label in watch.labels:
                    for deed in watch.deeds:
                        place = watch.place_of(state, label, deed)
                        if place != "broken" and place not in met:
                            met.append(place)
            self.gives(tuple(met), watch.reached)

    def test_begun(self):
        watch = Watch.read("r ; a ; x y z ; y / z / broken")
        self.assertEqual(str(watch.begun("z")), "r ; a ; z x y ; broken / y / z")
        self.assertEqual(str(watch.begun("y")), "r ; a ; y x z ; z / y / broken")
        self.assertEqual(watch.begun("x"), watch)
        self.assertEqual(watch.begun("y").first, "y")

    def test_carried(self):
        watch = Watch.read(TEXT)
        self.assertEqual(watch.carried(), watch)
        self.assertEqual(str(watch.carried({"z": "r", "q": "s", "n": "r"})),
                         "n q z ; a b ; w0 w1 ; w0 w1 , w0 broken , w0 w1 / w0 broken , w1 w1 , w0 broken")
        self.assertEqual(str(watch.carried(deeds={"z": "a", "c": "b"})),
                         "r s ; c z ; w0 w1 ; w1 w0 , broken w0 / broken w0 , w1 w1")
        self.assertEqual(str(watch.carried({"o": "s"}, {"e": "b"})), "o ; e ; w0 w1 ; broken / w1")
        back = Watch.read("s r ; b a ; w ; w w , broken w")
        self.assertEqual(str(back.carried({"s": "s", "r": "r"}, {"b": "b", "a": "a"})), "r s ; a b ; w ; w broken , w w")
        self.assertEqual(str(back.carried({"s": "s", "r": "r"})), "r s ; b a ; w ; broken w , w w")

    def test_bad_carried(self):
        watch = Watch.read(TEXT)
        for value in of_every_kind():
            if value is not None:
                self.fails(BadWatch("labels"), watch.carried, value, value)
                self.fails(BadWatch("deeds"), watch.carried, None, value)
                self.fails(BadWatch("deeds"), watch.carried, deeds=value)
            self.fails(BadWatch("labels"), watch.carried, {"x": value})
            self.fails(BadWatch("deeds"), watch.carried, {"x": "r"}, {"x": "a", "y": value})
        self.fails(BadWatch("labels"), watch.carried, {"X": "r"})
        self.fails(BadWatch("labels"), watch.carried, {"x": "a"}, {})
        self.fails(BadWatch("deeds"), watch.carried, {label: "r" for label in names("l", 201)}, {})
        self.fails(TooMany("labels", 200), watch.carried, {label: "r" for label in names("l", 201)},
                   {deed: "a" for deed in names("d", 13)})
        self.fails(TooMany("deeds", 12), watch.carried, None, {deed: "a" for deed in names("d", 13)})
        self.assertEqual(len(watch.carried({label: "r" for label in names("l", 200)}).labels), 200)

    def test_is_hopeless(self):
        for text, told in [(TEXT, False), ("r ; a ; x ; broken", True), ("r ; a ; x y ; y / broken", True),
                           ("r ; a ; x y ; y / y", False), ("r ; a b ; x y ; broken y / broken broken", True),
                           ("r s ; a ; x ; broken , x", False), ("r ; a ; x y ; broken / y", True),
                           ("r ; a b ; x y z ; y broken / broken z / x broken", False)]:
            self.assertIs(Watch.read(text).is_hopeless, told, text)
        states = names("w", 200)
        line = [(state, [[after]]) for state, after in zip(states, states[1:] + ["broken"])]
        self.assertIs(Watch(["l"], ["d"], line).is_hopeless, True)
        line[-1] = (states[-1], [[states[-1]]])
        self.assertIs(Watch(["l"], ["d"], line).is_hopeless, False)

    def test_equality(self):
        self.same([Watch.read(text) for text in [
            TEXT, "s r ; a b ; w0 w1 ; w0 w1 , w0 broken / w0 broken , w1 w1",
            "r s ; b a ; w0 w1 ; w0 w1 , w0 broken / w0 broken , w1 w1",
            "r s ; a b ; w1 w0 ; w0 w1 , w0 broken / w0 broken , w1 w1",
            "r s ; a b ; w0 w1 ; w0 w0 , w0 broken / w0 broken , w1 w1", "r s ; a b ; w0 ; w0 w0 , w0 broken",
            # The places are the same ones, told in another order.
            "r s ; a b ; w1 w0 ; w0 broken , w1 w1 / w0 w1 , w0 broken",
            "s r ; a b ; w0 w1 ; w0 broken , w0 w1 / w1 w1 , w0 broken",
            "r s ; b a ; w0 w1 ; w1 w0 , broken w0 / broken w0 , w1 w1"]])
        self.assertEqual(Watch.read(TEXT), Watch(("r", "s"), ["a", "b"], (
            ["w0", (["w0", "w1"], ("w0", "broken"))], ["w1", [["w0", "broken"], ["w1", "w1"]]])))

    def test_nothing_is_shared(self):
        labels, deeds, places = ["l"], ["d"], [["w"]]
        row = ["w", places]
        rows = [row]
        watch = Watch(labels, deeds, rows)
        before = str(watch)
        labels.append("m")
        deeds.append("e")
        places[0][0] = "broken"
        rows.append(row)
        self.assertEqual(str(watch), before)
        self.assertEqual((watch.labels, watch.deeds, watch.place_of("w", "l", "d")), (("l",), ("d",), "w"))
        carried = {"x": "l"}
        over = watch.carried(carried)
        carried["y"] = "l"
        self.assertEqual(over.labels, ("x",))

    def test_texts(self):
        for chance in chances(30):
            labels, deeds = names("l", chance.randint(1, 3)), names("d", chance.randint(1, 3))
            self.reads(Watch, random_watch(chance, labels, deeds))
        self.refuses_texts(Watch, TEXT)
        self.bends(Watch, TEXT)
        self.bends(Watch, "r ; a ; x ; x")
        for text, word in [
                ("r r ; a ; x ; x", 1), ("; a ; x ; x", 0), ("r ; ; x ; x", 2), ("r ; a a ; x ; x", 3),
                ("r ; a ; ; x", 4), ("r ; a ; x x ; x", 5), ("r ; a ; broken ; x", 4), ("r ; a ; x broken ; x", 5),
                ("r ; a ; x ; y", 6), ("r ; a ; x ;", 6), ("r ; a ; x ; x x", 7), ("r ; a b ; x ; x", 8),
                ("r ; a b ; x ; x , x", 8), ("r s ; a ; x ; x x", 8), ("r s ; a ; x ; x / x", 8),
                ("r s ; a ; x ; x , x ,", 10), ("r ; a ; x y ; x", 8), ("r ; a ; x y ; x / y /", 10),
                ("r ; a ; x y ; x , y", 8), ("r ; a ; x ; r", 6), ("r ; a ; x ; broken", None)]:
            if word is None:
                self.assertEqual(str(Watch.read(text)), text)
            else:
                self.fails(BadText(0, word), Watch.read, text)
        many = " ".join(names("l", 201))
        self.fails(BadText(0, 200), Watch.read, f"{many} ; a ; x ; x")
        self.fails(BadText(0, 14), Watch.read, "r ; " + " ".join(names("d", 13)) + " ; x ; x")
        self.fails(BadText(0, 204), Watch.read, f"r ; a ; {many} ; x")
