import itertools

from common import Case, chances, names, of_every_kind, random_watch

from dimkeeper.errors import BadNumbers, BadWatch, TooMany, Unlike
from dimkeeper.promises import (again, answered, anything, both, done_in_turn, freed_by, in_turn, never, never_done)
from dimkeeper.watches import Watch

L, D = ["r", "s", "t"], ["a", "b"]


def readings(many):
    pairs = [(label, deed) for label in L for deed in D]
    for size in range(many + 1):
        yield from itertools.product(pairs, repeat=size)


def in_turn_by_hand(names_read, row):
    told = [name for name in names_read if name in row]
    return all(name == row[at % len(row)] for at, name in enumerate(told))


def answered_by_hand(labels, asks, some, many):
    asked = None
    for at, label in enumerate(labels):
        if asked is not None:
            if label in some:
                asked = None
            elif at - asked == many:
                return False
        if asked is None and label in asks:
            asked = at
    return True


class Promises(Case):

    def holds_just_if(self, watch, test, many=5):
        """The watch is broken by just the readings that fail the test, and its states are those that are met."""
        self.assertEqual(list(watch.states), names("w", len(watch)))
        self.assertEqual(watch.reached(), watch.states)
        self.assertEqual((watch.labels, watch.deeds), (tuple(L), tuple(D)))
        for reading in readings(many):
            self.assertEqual(watch.after(reading) != "broken", test(reading), reading)

    def test_texts(self):
        for watch, text in [
                (anything(L, D), "w0 ; w0 w0 , w0 w0 , w0 w0"),
                (never(L, D, ["s"]), "w0 ; w0 w0 , broken broken , w0 w0"),
                (never_done(L, D, ["a"]), "w0 ; broken w0 , broken w0 , broken w0"),
                (again(L, D, ["r"], 2), "w0 w1 ; w0 w0 , w1 w1 , w1 w1 / w0 w0 , broken broken , broken broken"),
                (again(L, D, ["r", "s", "t"], 9), "w0 ; w0 w0 , w0 w0 , w0 w0"),
                (again(L, D, ["s"], 1), "w0 ; broken broken , w0 w0 , broken broken"),
                (in_turn(L, D, ["s", "r"]), "w0 w1 ; broken broken , w1 w1 , w0 w0 / w0 w0 , broken broken , w1 w1"),
                (in_turn(L, D, ["s"]), "w0 ; w0 w0 , w0 w0 , w0 w0"),
                (done_in_turn(L, D, ["b", "a"]),
                 "w0 w1 ; broken w1 , broken w1 , broken w1 / w0 broken , w0 broken , w0 broken"),
                (answered(L, D, ["r"], ["s"], 2),
                 "w0 w1 w2 ; w1 w1 , w0 w0 , w0 w0 / w2 w2 , w0 w0 , w2 w2 / broken broken , w0 w0 , broken broken")]:
            self.assertEqual(str(watch), f"r s t ; a b ; {text}")

    def test_order_of_labels_and_deeds_is_kept(self):
        watch = never(["z", "a"], ["y", "b"], ["a"])
        self.assertEqual(str(watch), "z a ; y b ; w0 ; w0 w0 , broken broken")
        watch = again(["z", "a"], ["y"], ["a"], 3)
        self.assertEqual(str(watch), "z a ; y ; w0 w1 w2 ; w1 , w0 / w2 , w0 / broken , w0")

    def test_simple_ones(self):
        self.holds_just_if(anything(L, D), lambda reading: True)
        self.holds_just_if(never(L, D, ["s", "t"]), lambda reading: all(label == "r" for label, _ in reading))
        self.holds_just_if(never_done(L, D, ["b"]), lambda reading: all(deed == "a" for _, deed in reading))

    def test_again(self):
        for some in (["r"], ["s", "t"]):
            for many in (1, 2, 3):
                def test(reading):
                    return all(any(label in some for label, _ in reading[at:at + many])
                               for at in range(len(reading) - many + 1))
                self.holds_just_if(again(L, D, some, many), test)

    def test_in_turn(self):
        for row in (["r"], ["r", "s"], ["t", "s", "r"]):
            self.holds_just_if(in_turn(L, D, row), lambda reading: in_turn_by_hand([pair[0] for pair in reading], row))
        for row in (["a"], ["b"], ["b", "a"]):
            watch = done_in_turn(L, D, row)
            self.holds_just_if(watch, lambda reading: in_turn_by_hand([pair[1] for pair in reading], row))
            self.assertEqual(len(watch), len(row))

    def test_answered(self):
        for asks, some in [(["r"], ["s"]), (["r", "s"], ["s"]), (["r"], ["r"]), (["t", "r"], ["s", "t"])]:
            for many in (1, 2, 3):
                def test(reading):
                    return answered_by_hand([pair[0] for pair in reading], asks, some, many)
                self.holds_just_if(answered(L, D, asks, some, many), test)

    def test_both_and_freed_by(self):
        for chance in chances(25):
            one, two = random_watch(chance, L, D, 3, 0.15), random_watch(chance, L, D, 3, 0.15)
            self.holds_just_if(both(one, two), lambda reading: "broken" not in (one.after(reading), two.after(reading)), 3)

            def test(reading):
                labels = [label for label, _ in reading]
                until = labels.index("t") if "t" in labels else len(labels)
                return one.after(reading[:until]) != "broken"
            self.holds_just_if(freed_by(one, ["t"]), test, 3)
        self.assertEqual(str(freed_by(never(L, D, ["s"]), ["t"])),
                         "r s t ; a b ; w0 w1 ; w0 w0 , broken broken , w1 w1 / w1 w1 , w1 w1 , w1 w1")
        self.assertEqual(str(freed_by(never(L, D, ["s"]), ["s"])),
                         "r s t ; a b ; w0 w1 ; w0 w0 , w1 w1 , w0 w0 / w1 w1 , w1 w1 , w1 w1")

    def test_what_is_kept_is_told_apart(self):
        # Both of the things that are kept never break again, and still each has a watch state.
        watch = Watch(["r"], ["a"], [("x", [["y"]]), ("y", [["x"]]), ("z", [["z"]])])
        self.assertEqual(str(both(watch, anything(["r"], ["a"]))), "r ; a ; w0 w1 ; w1 / w0")
        self.assertEqual(len(both(watch, watch.begun("y"))), 2)
        self.assertEqual(len(freed_by(watch, ["r"])), 2)

    def test_bad_labels_and_deeds(self):
        calls = [anything, lambda labels, deeds: never(labels, deeds, 1), lambda labels, deeds: never_done(labels, deeds, 1),
                 lambda labels, deeds: again(labels, deeds, 1, 0), lambda labels, deeds: in_turn(labels, deeds, 1),
                 lambda labels, deeds: done_in_turn(labels, deeds, 1),
                 lambda labels, deeds: answered(labels, deeds, 1, 1, 0)]
        for call in calls:
            for value in of_every_kind() + [["r", "r"]]:
                self.fails(BadWatch("labels"), call, value, value)
                self.fails(BadWatch("deeds"), call, ["r"], value)

    def test_bad_some(self):
        for value in of_every_kind() + [["a"], ["r", "r"], [], ["r", "z"], "r"]:
            self.fails(BadWatch("some"), never, L, D, value)
            self.fails(BadWatch("some"), again, L, D, value, 0)
            self.fails(BadWatch("row"), in_turn, L, D, value)
            self.fails(BadWatch("asks"), answered, L, D, value, value, 0)
            self.fails(BadWatch("some"), answered, L, D, ["r"], value, 0)
            self.fails(BadWatch("some"), freed_by, anything(L, D), value)
            if value != ["a"]:
                self.fails(BadWatch("some"), never_done, L, D, value)
                self.fails(BadWatch("row"), done_in_turn, L, D, value)
        self.fails(BadWatch("some"), never_done, L, D, ["r"])
        self.fails(BadWatch("row"), done_in_turn, L, D, ["a", "b", "a"])

    def test_bad_numbers(self):
        for value in of_every_kind() + [101, 0, -5]:
            if value is True or type(value) is not int or not 1 <= value <= 100:
                self.fails(BadNumbers("many"), again, L, D, ["r"], value)
                self.fails(BadNumbers("many"), answered, L, D, ["r"], ["s"], value)
        self.assertEqual(len(again(L, D, ["r"], 100)), 100)
        self.assertEqual(len(again(L, D, ["r"], 1)), 1)
        self.assertEqual(len(answered(L, D, ["r"], ["s"], 100)), 101)
        self.assertEqual(len(answered(L, D, ["r"], ["s"], 1)), 2)

    def test_too_many(self):
        labels, deeds = names("l", 201), names("d", 13)
        for call in (anything, lambda *told: never(*told, labels), lambda *told: in_turn(*told, labels),
                     lambda *told: again(*told, ["l0"], 100), lambda *told: answered(*told, ["l0"], ["l1"], 100)):
            self.fails(TooMany("labels", 200), call, labels, deeds)
        self.fails(TooMany("deeds", 12), done_in_turn, ["r"], deeds, deeds)
        self.fails(TooMany("deeds", 12), never_done, ["r"], deeds, ["d0"])
        self.fails(BadNumbers("many"), again, labels, deeds, ["l0"], 0)
        self.assertEqual(len(in_turn(labels[:200], ["d"], labels[:200])), 200)
        self.assertEqual(len(done_in_turn(["r"], deeds[:12], deeds[:12])), 12)

    def test_too_many_states(self):
        self.assertEqual(len(both(again(L, D, ["r"], 10), again(L, D, ["s"], 20))), 200)
        self.fails(TooMany("states", 200), both, again(L, D, ["r"], 10), again(L, D, ["s"], 21))
        rings = [Watch(L, D, [(state, [[after] * 2] * 3) for state, after in zip(names("k", size), names("k", size)[1:] + ["k0"])])
                 for size in (8, 25, 67, 3, 200)]
        self.assertEqual(len(both(rings[0], rings[1])), 200)
        self.fails(TooMany("states", 200), both, rings[2], rings[3])
        self.assertEqual(len(freed_by(Watch(L, D, [("k", [["k"] * 2] * 3)] + [("j", [["k"] * 2] * 3)]), ["r"])), 2)
        self.fails(TooMany("states", 200), freed_by, rings[4], ["r"])
        self.assertEqual(len(freed_by(both(rings[0], rings[3]), ["r"])), 25)

    def test_bad_watches(self):
        for value in of_every_kind():
            if not isinstance(value, Watch):
                self.fails(BadWatch("one"), both, value, value)
                self.fails(BadWatch("other"), both, anything(L, D), value)
                self.fails(BadWatch("watch"), freed_by, value, value)
        self.fails(Unlike("labels"), both, anything(L, D), anything(L[::-1], D[::-1]))
        self.fails(Unlike("deeds"), both, anything(L, D), anything(L, D[::-1]))
        self.fails(Unlike("labels"), both, anything(L, D), anything(["r"], D))
        self.fails(Unlike("deeds"), both, anything(L, D), anything(L, ["a"]))

    def test_nothing_is_shared(self):
        labels, deeds, some = list(L), list(D), ["s"]
        watch = never(labels, deeds, some)
        before = str(watch)
        labels.append("z")
        deeds.clear()
        some[0] = "r"
        self.assertEqual(str(watch), before)
