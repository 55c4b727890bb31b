import itertools

from common import Case, chances, names, of_every_kind, other_class, random_watch

from dimkeeper.errors import BadPaper, BadWatch, BadWorld, TooMany, Unlike
from dimkeeper.implied import Apart, Implied, apart_world, implied, shows_implied
from dimkeeper.judged import settled
from dimkeeper.leastwatch import least_watch
from dimkeeper.papers import Denial, Paper
from dimkeeper.promises import again, answered, anything, both, in_turn, never
from dimkeeper.short_lassos import folded, shortest_lasso
from dimkeeper.watches import Watch
from dimkeeper.worlds import World

R, D = ["r", "s"], ["a"]


def unrolled(reading, ring, many):
    """The first pairs of an endless reading."""
    told = list(reading)
    while len(told) < many:
        told += reading[ring:]
    return told


def breaks(watch, paper):
    """Whether the endless reading of an Apart breaks a watch."""
    many = len(paper.reading) * (len(watch) + 2)
    return watch.broken_at(unrolled(paper.reading, paper.ring, many)) is not None


def pairs_by_hand(one, other):
    calm = settled(one)
    met = [(one.first, other.first)]
    for kept, held in met:
        for label in one.labels:
            for deed in one.deeds:
                pair = calm.place_of(kept, label, deed), other.place_of(held, label, deed)
                if pair[0] != "broken" and pair not in met:
                    met.append(pair)
    return met


def ring_watch(size, signs):
    """A watch that reads just these signs, one behind the other, again and again."""
    labels = sorted({label for label, _ in signs})
    deeds = sorted({deed for _, deed in signs})
    states = names("k", size)
    return Watch(labels, deeds, [(state, [[states[(at + 1) % size] if (label, deed) == signs[at] else "broken"
                                           for deed in deeds] for label in labels]) for at, state in enumerate(states)])


def least_by_hand(calm, other, most):
    """How many pairs the shortest reading has that breaks other and leads calm back to where it was, if at most most."""
    signs = [(label, deed) for label in calm.labels for deed in calm.deeds]
    for size in range(1, most):
        for reading in itertools.product(signs, repeat=size):
            run = [calm.after(reading[:at]) for at in range(size + 1)]
            if other.after(reading) == "broken" and run[-1] != "broken" and run[-1] in run[:-1]:
                return size
    return most


class ImpliedWatches(Case):

    def test_example(self):
        one, other = again(["r", "s"], ["a"], ["r"], 2), again(["r", "s"], ["a"], ["r"], 3)
        self.assertEqual(implied(one, other).pairs, (("w0", "w0"), ("w1", "w1")))

    def test_by_hand(self):
        seen = {True: 0, False: 0}
        for chance in chances(150):
            labels, deeds = names("l", 2), names("d", chance.randint(1, 2))
            one, other = random_watch(chance, labels, deeds, 4, 0.4), random_watch(chance, labels, deeds, 4, 0.1)
            if chance.random() < 0.4:
                one = both(one, other)
            paper = implied(one, other)
            self.gives(paper, implied, one, other)
            self.assertIs(shows_implied(one, other, paper), True)
            told = least_watch(both(one, other)) == least_watch(one)
            self.assertIs(bool(paper), told)
            seen[told] += 1
            if not told:
                self.assertIsInstance(paper, Apart)
                self.assertEqual((breaks(one, paper), breaks(other, paper)), (False, True))
                self.assertIs(shows_implied(other, one, paper), False)
                continue
            self.assertEqual(paper, Implied([] if one.is_hopeless else pairs_by_hand(one, other)))
            for at in range(len(paper.pairs)):
                self.assertIs(shows_implied(one, other, Implied(paper.pairs[:at] + paper.pairs[at + 1:])), False)
            self.assertIs(shows_implied(one, other, Implied(paper.pairs[::-1] + paper.pairs)), True)
        self.assertTrue(min(seen.values()) > 20, seen)

    def test_hopeless_watches(self):
        gone, free = Watch.read("r s ; a ; x y ; y , y / broken , broken"), anything(R, D)
        self.gives(Implied(()), implied, gone, free)
        self.gives(Implied(()), implied, gone, gone)
        self.gives(Implied(()), implied, gone, never(R, D, R))
        paper = implied(free, gone)
        self.assertEqual((paper.word, breaks(gone, paper), breaks(free, paper)), ("apart", True, False))
        for value, told in [(Implied(()), True), (Implied([("x", "w0")]), True), (Implied([("y", "w0")]), False),
                            (Implied([("x", "w1")]), False), (Apart([("r", "a")], 0), False)]:
            self.assertIs(shows_implied(gone, free, value), told)
        # There y is doomed, so pairs are not told of it.
        half = Watch.read("r s ; a ; x y ; x , y / broken , broken")
        self.gives(Implied([("x", "w0")]), implied, half, never(R, D, ["s"]))
        self.assertIs(shows_implied(half, free, Implied([("x", "w0"), ("y", "w0")])), False)

    def test_apart_by_hand(self):
        one, other = again(R, D, ["r"], 3), again(R, D, ["r"], 2)
        for reading, ring, told in [
                ("ssr", 0, True), ("ssr", 2, True), ("ssr", 1, True), ("rssr", 3, True), ("ssrrrrr", 4, True), ("sr", 0, False),
                ("r", 0, False), ("s", 0, False), ("sss", 0, False), ("ss", 0, False), ("ss", 1, False), ("srs", 0, True),
                ("srs", 1, False), ("rs", 0, False), ("rs", 1, False), ("sssr", 0, False)]:
            self.assertIs(shows_implied(one, other, Apart([(label, "a") for label in reading], ring)), told, (reading, ring))
        good = [("s", "a"), ("s", "a"), ("r", "a")]
        for ring in of_every_kind() + [3, 4, -1, -3]:
            told = type(ring) is int and 0 <= ring <= 2
            if not isinstance(ring, dict) or None not in ring:
                self.assertIs(shows_implied(one, other, Apart(good, ring)), told)
        self.assertIs(shows_implied(one, other, Apart([], 0)), False)
        for wrong in (("z", "a"), ("s", "z"), ("s",), ("s", "a", "a"), "sa", None, 1, (["s"], "a"), ("a", "s")):
            self.assertIs(shows_implied(one, other, Apart(good + [wrong], 0)), False)
            self.assertIs(shows_implied(one, other, Apart(good + [wrong], 3)), False)

    def test_breaks_in_a_later_round(self):
        # The ring has two pairs, and other breaks at the fifth one.
        one = ring_watch(2, [("r", "a"), ("s", "a")])
        other = Watch(R, D, [(f"k{at}", [[f"k{at + 1}"]] * 2) for at in range(4)] + [("k4", [["broken"]] * 2)])
        self.assertIs(shows_implied(one, other, Apart([("r", "a"), ("s", "a")], 0)), True)
        self.assertIs(shows_implied(one, anything(R, D), Apart([("r", "a"), ("s", "a")], 0)), False)
        self.assertIs(shows_implied(one, other, Apart([("r", "a"), ("s", "a"), ("r", "a")], 0)), False)
        self.assertIs(shows_implied(one, other, Apart([("r", "a"), ("s", "a"), ("r", "a")], 1)), True)

    def test_readings_are_short(self):
        paper = implied(again(R, D, ["r"], 100), again(R, D, ["r"], 99))
        self.assertLessEqual(len(paper.reading), 200)
        self.assertTrue(breaks(again(R, D, ["r"], 99), paper))
        big, small = answered(R, D, ["r"], ["s"], 100), answered(R, D, ["r"], ["s"], 99)
        paper = implied(big, small)
        self.assertLessEqual(len(paper.reading), 200)
        self.assertIs(shows_implied(big, small, paper), True)

    def test_readings_as_long_as_a_watch(self):
        signs = [("r", "a")] * 199 + [("s", "a")]
        one = ring_watch(200, signs)
        self.assertEqual(implied(one, never(R, D, ["r"])), Apart(signs, 0))
        self.assertEqual(implied(one, never(R, D, ["s"])), Apart(signs, 0))
        self.assertTrue(implied(one, anything(R, D)))

    def test_breaks_far_behind_a_short_ring(self):
        # The one endless reading that one lets be breaks other far behind its 200th pair.
        one = ring_watch(19, [("r", "a")] * 18 + [("s", "a")])
        other = Watch(R, D, [(f"k{at}", [[f"k{(at + 1) % 23}"], ["broken" if at == 22 else f"k{(at + 1) % 23}"]])
                             for at in range(23)])
        paper = implied(one, other)
        self.assertEqual((paper.ring, len(paper.reading)), (0, 19))
        self.assertIs(shows_implied(one, other, paper), True)
        self.assertTrue(breaks(other, paper))

    def test_a_tail_ahead_of_a_ring(self):
        # One reads r 150 times, then s for ever; other breaks at the first r.
        states = names("k", 151)
        rows = [(state, [[states[at + 1]], ["broken"]]) for at, state in enumerate(states[:150])]
        one = Watch(R, D, rows + [(states[150], [["broken"], [states[150]]])])
        paper = implied(one, never(R, D, ["r"]))
        self.assertEqual(paper, Apart([("r", "a")] * 150 + [("s", "a")], 150))
        # Of two ways on the shorter one is told: r leads along all states, s at once into a ring.
        short = Watch(R, D, [(state, [[after], ["z"]]) for state, after in zip(states[:150], states[1:])]
                      + [(states[150], [["broken"], [states[150]]]), ("z", [["broken"], ["z"]])])
        self.assertLessEqual(len(implied(short, never(R, D, ["r"])).reading), 3)

    def test_the_shortest_reading_that_is_closed_by_itself(self):
        for chance in chances(150):
            labels = names("l", 2)
            one, other = random_watch(chance, labels, ["d"], 4, 0.45), random_watch(chance, labels, ["d"], 4, 0.1)
            if implied(one, other):
                continue
            calm = settled(one)
            reading, ring = shortest_lasso(calm, other)
            self.assertIs(shows_implied(one, other, Apart(reading, ring)), True)
            self.assertEqual(min(len(reading), 8), least_by_hand(calm, other, 8))

    def test_a_long_way_behind_the_first_break(self):
        # Other breaks first behind 20 times r and an s, but behind the s one goes along 190 watch states; as well
        # it breaks at the 30th r, and there one goes nowhere.
        chain = names("c", 190)
        one = Watch(R, D, [("x", [["x"], ["c0"]])]
                    + [(state, [["broken"], [after]]) for state, after in zip(chain, chain[1:] + chain[-1:])])
        count = names("k", 31)
        other = Watch(R, D, [(count[at], [[count[at + 1] if at < 29 else "broken"], ["broken" if at >= 20 else "z"]])
                             for at in range(30)] + [("z", [["z"], ["z"]])])
        paper = implied(one, other)
        self.assertLessEqual(len(paper.reading), 30)
        self.assertIs(shows_implied(one, other, paper), True)

    def test_folded(self):
        a, b, c = ("a", "d"), ("b", "d"), ("c", "d")
        for reading, ring, told in [([a], 0, ((a,), 0)), ([a, a, a], 2, ((a,), 0)), ([a, b, a, b], 0, ((a, b), 0)),
                                    ([b, a, b], 1, ((b, a), 0)), ([c, b, a, b], 2, ((c, b, a), 1)),
                                    ([c, a, b, a, b, a, b], 3, ((c, a, b), 1)), ([a, b, c], 1, ((a, b, c), 1)),
                                    ([b, a, b, a, b], 1, ((b, a), 0)), ([b, c, a, b, c], 2, ((b, c, a), 0)),
                                    ([c, a, b, c], 1, ((c, a, b), 0)), ([a, a, c, a, b, c], 3, ((a, a, c, a, b), 2)),
                                    ([b, b, c, a, b, c], 3, ((b, b, c, a), 1)), ([a, b, c, a, b, c, a], 4, ((a, b, c), 0)), ([a, b, c, b, c], 4, ((a, b, c, b, c), 4))]:
            self.assertEqual(folded(tuple(reading), ring), told)

    def test_apart_world(self):
        paper = Apart([("s", "a"), ("s", "b"), ("r", "a")], 1)
        self.assertEqual(str(apart_world(paper, ["d", "c"])),
                         "d c ; s0 s s1 s s2 r ; s0 ; s1 , s1 / s2 , s2 / s1 , s1")
        self.assertEqual(str(apart_world(Apart([("s", "a")], 0), ("d",))), "d ; s0 s ; s0 ; s0")
        long = Apart([("s", "a")] * 200, 199)
        self.assertEqual(apart_world(long, ["d"]).nexts("s199", "d"), ("s199",))
        self.fails(TooMany("states", 200), apart_world, Apart([("s", "a")] * 201, 0), ["d"])
        self.fails(TooMany("deeds", 12), apart_world, Apart([("s", "a")] * 201, 0), names("d", 13))
        for value in of_every_kind():
            if value != ["a", "b"]:
                self.fails(BadWorld("deeds"), apart_world, paper, value)
            self.fails(BadPaper("paper"), apart_world, value, value)
            if not isinstance(value, dict) or None not in value:
                if not (type(value) is int and 0 <= value < 1):
                    self.fails(BadPaper("paper"), apart_world, Apart([("s", "a")], value), None)
                self.fails(BadPaper("paper"), apart_world, Apart(value, 0), None)
                if value != ["a", "a"]:
                    self.fails(BadPaper("paper"), apart_world, Apart([value], 0), None)
                if value != "x":
                    self.fails(BadPaper("paper"), apart_world, Apart([("s", value)], 0), None)
                    self.fails(BadPaper("paper"), apart_world, Apart([(value, "a")], 0), None)
        self.fails(BadPaper("paper"), apart_world, Denial("apart", [("s", "a")], 0), ["d"])
        self.fails(BadPaper("paper"), apart_world, Apart([("s", "a")], 1), ["d"])

    def test_a_world_in_which_it_is_seen(self):
        for chance in chances(40):
            labels, deeds = names("l", 2), names("d", 2)
            one, other = random_watch(chance, labels, deeds, 3, 0.3), random_watch(chance, labels, deeds, 3, 0.3)
            paper = implied(one, other)
            if not paper:
                world = apart_world(paper, deeds)
                self.assertEqual([world.label_of(state) for state in world], [label for label, _ in paper.reading])

    def test_any_values(self):
        one, other = again(R, D, ["r"], 2), again(R, D, ["r"], 3)
        pairs = [("w0", "w0"), ("w1", "w1")]

        class Lower(Implied):
            pass

        class LowerStill(Apart):
            pass
        self.assertIs(shows_implied(other, one, Apart([("s", "a"), ("s", "a"), ("r", "a")], 0)), True)
        self.assertIs(shows_implied(other, one, LowerStill([("s", "a"), ("s", "a"), ("r", "a")], 0)), False)
        self.assertIs(shows_implied(other, one, other_class("Apart", reading=(("s", "a"),) * 2 + (("r", "a"),), ring=0)), False)
        self.assertIs(shows_implied(one, other, other_class("Implied", pairs=(("w0", "w0"), ("w1", "w1")))), False)
        self.fails(BadPaper("paper"), apart_world, LowerStill([("s", "a")], 0), ["d"])
        self.fails(BadPaper("paper"), apart_world, other_class("Apart", reading=(("s", "a"),), ring=0), ["d"])
        self.assertIs(shows_implied(one, other, Implied(pairs)), True)
        for value in of_every_kind() + [pairs, Paper("implied", pairs), Lower(pairs), Denial("apart", [("r", "a")], 0)]:
            self.assertIs(shows_implied(one, other, value), False)
            if value != pairs and (not isinstance(value, dict) or None not in value):
                for paper in (Implied(value), Implied(pairs + [value]), Implied(pairs + [(value, "w0")]),
                              Implied(pairs + [("w0", value)]), Apart(value, value), Apart([value], 0),
                              Apart([(value, value)], 0)):
                    self.assertIs(shows_implied(one, other, paper), False)
        self.assertIs(shows_implied(one, other, Implied(pairs + [("w0", "w1")])), False)
        self.assertIs(shows_implied(one, other, Implied(pairs + [("w1", "w0"), ("w1", "w1")])), True)
        self.assertIs(shows_implied(one, other, Implied(pairs + [("w0", "broken")])), False)

    def test_errors(self):
        one = anything(R, D)
        for call in (implied, lambda *told: shows_implied(*told, None)):
            for value in of_every_kind():
                if not isinstance(value, Watch):
                    self.fails(BadWatch("one"), call, value, value)
                    self.fails(BadWatch("other"), call, one, value)
            self.fails(Unlike("labels"), call, one, anything(["s", "r"], ["b"]))
            self.fails(Unlike("deeds"), call, one, anything(R, ["b"]))
            self.fails(Unlike("deeds"), call, anything(R, ["a", "b"]), anything(R, ["b", "a"]))


class LeastWatches(Case):

    def test_texts(self):
        for text, told in [
                ("r ; a ; x y ; y / x", "r ; a ; w0 ; w0"), ("r ; a ; x y ; y / broken", "r ; a ; w0 ; broken"),
                ("r ; a ; x y z ; x / y / broken", "r ; a ; w0 ; w0"),
                ("s r ; b a ; x y z ; z y , z y / broken x , y x / broken x , y x",
                 "s r ; b a ; w0 w1 ; w1 w1 , w1 w1 / broken w0 , w1 w0"),
                ("r ; a b ; x y z ; z y / broken y / broken broken", "r ; a b ; w0 ; broken w0"),
                ("r ; a b ; u v ; v broken / broken u", "r ; a b ; w0 w1 ; w1 broken / broken w0")]:
            self.assertEqual(str(least_watch(Watch.read(text))), told)

    def test_names_as_met(self):
        watch = Watch.read("r s ; a b ; x y z ; z y , x x / y broken , x x / broken z , x x")
        self.assertEqual(str(least_watch(watch)), "r s ; a b ; w0 w1 w2 ; w1 w2 , w0 w0 / broken w1 , w0 w0 / w2 broken , w0 w0")

    def test_least_forms(self):
        for chance in chances(120):
            labels, deeds = names("l", 2), names("d", 2)
            one, other = random_watch(chance, labels, deeds, 4, 0.4), random_watch(chance, labels, deeds, 4, 0.4)
            least = least_watch(one)
            self.assertEqual(least, least_watch(least))
            self.assertEqual(list(least), names("w", len(least)))
            self.assertEqual(least.reached(), least.states)
            self.assertLessEqual(len(least), len(settled(one)))
            self.assertTrue(implied(one, least) and implied(least, one))
            alike = bool(implied(one, other)) and bool(implied(other, one))
            self.assertIs(least == least_watch(other), alike)
            calm = settled(least)
            self.assertEqual(calm, least)
            for state in least:
                for other_state in least:
                    if state != other_state:
                        begun, ended = least.begun(state), least.begun(other_state)
                        self.assertFalse(implied(begun, ended) and implied(ended, begun))

    def test_errors(self):
        for value in of_every_kind():
            if not isinstance(value, Watch):
                self.fails(BadWatch("watch"), least_watch, value)

    def test_of_promises(self):
        labels = names("l", 3)
        watch = in_turn(labels, D, labels)
        self.assertEqual(least_watch(watch), watch)
        self.assertEqual(least_watch(in_turn(labels, D, labels[:1])), anything(labels, D))
        self.assertEqual(least_watch(never(labels, D, labels)), Watch(labels, D, [("w0", [["broken"]] * 3)]))
        self.assertEqual(least_watch(answered(["r"], D, ["r"], ["r"], 5)), anything(["r"], D))
