from common import Case, chances, names, of_every_kind, other_class, random_watch, random_world

from dimkeeper.errors import BadWatch, BadWorld, NoLabel, Unlike
from dimkeeper.judged import Safe, Unsafe, doomed, safe, settled, shows_safe
from dimkeeper.papers import Denial, Paper
from dimkeeper.promises import again, anything, never, never_done
from dimkeeper.watches import Watch
from dimkeeper.worlds import World

DRIFT = World.read("left right ; p l q r x x ; p q ; p , x / x , q / x , x")
NEVER_X = never(DRIFT.labels, DRIFT.deeds, ["x"])


def doomed_by_hand(watch):
    """A state is doomed if no reading as long as there are states stays unbroken."""
    alive = set(watch.states)
    for _ in watch.states:
        alive = {state for state in watch.states
                 if any(watch.place_of(state, label, deed) in alive for label in watch.labels for deed in watch.deeds)}
    return tuple(state for state in watch.states if state not in alive)


def stands_by_hand(world, watch):
    """The stands that come about, and whether a deed breaks at one of them."""
    met, broken = [(start, watch.first) for start in world.starts], False
    for state, kept in met:
        for deed in world.deeds:
            place = watch.place_of(kept, world.label_of(state), deed)
            if place == "broken":
                broken = True
            else:
                met += [(after, place) for after in world.nexts(state, deed) if (after, place) not in met]
    return met, broken


def fewest_by_hand(world, watch):
    """The fewest deeds by which the promise is broken."""
    layer = [(start, watch.first) for start in world.starts]
    many = 1
    while True:
        places = {(state, deed): watch.place_of(kept, world.label_of(state), deed) for state, kept in layer
                  for deed in world.deeds}
        if any(watch.place_of(kept, world.label_of(state), deed) == "broken" for state, kept in layer
               for deed in world.deeds):
            return many
        layer = list({(after, watch.place_of(kept, world.label_of(state), deed)): 1 for state, kept in layer
                      for deed in world.deeds for after in world.nexts(state, deed)})
        del places
        many += 1


class Judged(Case):

    def test_doomed(self):
        for text, told in [("r ; a ; x ; broken", ("x",)), ("r ; a ; x ; x", ()), ("r ; a ; x y z ; y / broken / z", ("x", "y")),
                           ("r ; a b ; x y z ; z y / broken y / broken broken", ("z",)),
                           ("r ; a b ; x y z ; y y / x z / broken broken", ("z",))]:
            self.gives(told, doomed, Watch.read(text))
        for chance in chances(80):
            watch = random_watch(chance, names("l", 2), names("d", 2), 6, 0.6)
            self.gives(doomed_by_hand(watch), doomed, watch)
            self.assertIs(watch.is_hopeless, watch.first in doomed(watch))

    def test_settled(self):
        for text, told in [
                ("r ; a ; x ; broken", "r ; a ; x ; broken"), ("r ; a ; x y ; y / y", "r ; a ; x y ; y / y"),
                ("r ; a ; x y z ; y / broken / z", "r ; a ; x ; broken"),
                ("r ; a b ; x y z ; z y / broken y / broken broken", "r ; a b ; x y ; broken y / broken y"),
                ("s r ; b a ; u x ; u x , broken u / x broken , broken broken",
                 "s r ; b a ; u x ; u x , broken u / x broken , broken broken")]:
            self.assertEqual(str(settled(Watch.read(text))), told)

    def test_settled_by_hand(self):
        for chance in chances(80):
            watch = random_watch(chance, names("l", 2), names("d", 2), 6, 0.6)
            calm, gone = settled(watch), doomed_by_hand(watch)
            if watch.first in gone:
                self.assertEqual(calm.states, (watch.first,))
                self.assertEqual(calm.reached(), (watch.first,))
                self.assertTrue(all(calm.place_of(watch.first, label, deed) == "broken"
                                    for label in watch.labels for deed in watch.deeds))
                continue
            self.assertEqual(calm.states, tuple(state for state in watch if state not in gone))
            for state in calm:
                for label in watch.labels:
                    for deed in watch.deeds:
                        place = watch.place_of(state, label, deed)
                        self.assertEqual(calm.place_of(state, label, deed), "broken" if place in gone else place)
            self.assertEqual(settled(calm), calm)

    def test_safe_by_hand(self):
        seen = {True: 0, False: 0}
        for chance in chances(120):
            world = random_world(chance)
            labels, deeds = sorted(world.labels) + ["more"], sorted(world.deeds)
            watch = random_watch(chance, labels, deeds, 3, chance.choice([0.03, 0.2]))
            met, broken = stands_by_hand(world, watch)
            paper = safe(world, watch)
            self.gives(paper, safe, world, watch)
            self.assertIs(shows_safe(world, watch, paper), True)
            seen[broken] += 1
            if not broken:
                places = [(state, kept) for state in world for kept in watch]
                self.assertEqual(paper, Safe(sorted(met, key=places.index)))
                self.assertIs(shows_safe(world, watch, Safe(paper.stands[::-1])), True)
                self.assertIs(shows_safe(world, watch, Safe(paper.stands * 2)), True)
                for at in range(len(paper.stands)):
                    self.assertIs(shows_safe(world, watch, Safe(paper.stands[:at] + paper.stands[at + 1:])), False)
                continue
            self.assertEqual((len(paper.states), len(paper.deeds)), (fewest_by_hand(world, watch),) * 2)
            for at in range(len(paper.states)):
                self.assertIs(shows_safe(world, watch, Unsafe(paper.states[:at], paper.deeds[:at])), False)
            self.assertIs(shows_safe(world, watch, Safe(met)), False)
            self.assertIs(shows_safe(world, watch, Unsafe(paper.states + (world.states[0],), paper.deeds + (deeds[0],))), False)
        self.assertTrue(min(seen.values()) > 10, seen)

    def test_safe(self):
        self.gives(Safe([("p", "w0"), ("q", "w0"), ("x", "w0")]), safe, DRIFT, anything(DRIFT.labels, DRIFT.deeds))
        self.gives(Safe([("x", "w0")]), safe, DRIFT.begun("x"), never(DRIFT.labels, DRIFT.deeds, ["l", "r"]))
        self.gives(Unsafe(["p"], ["left"]), safe, DRIFT, never_done(DRIFT.labels, DRIFT.deeds, ["left"]))
        two = again(["l", "r", "x"], ["right", "left"], ["x"], 2)
        paper = safe(DRIFT.begun("p"), two)
        self.assertEqual((paper.states, paper.deeds[0]), (("p", "p"), "left"))

    def test_shown_by_any_length(self):
        self.assertIs(shows_safe(DRIFT, NEVER_X, Unsafe(["p", "p", "x"], ["left", "right", "left"])), True)
        self.assertIs(shows_safe(DRIFT, NEVER_X, Unsafe(["q", "x"], ["left", "right"])), True)
        for states, deeds in [(["p", "x", "x"], ["right", "left", "left"]), (["p", "p"], ["left", "left"]),
                              (["x"], ["left"]), (["p", "q", "x"], ["left", "right", "left"]), ([], []),
                              (["p", "x"], ["right"]), (["p", "x"], ["right", "up"]), (["p", "x"], ["left", "left"]),
                              (["p", "x", "x"], ["right", "left"]), ("px", ["right", "left"]), (None, None)]:
            self.assertIs(shows_safe(DRIFT, NEVER_X, Unsafe(states, deeds)), False)
        # A string of deeds is no row of deeds, nor is one of states a row of states.
        coin = World.read("a b ; o r ; o ; o , o")
        self.assertIs(shows_safe(coin, never_done(["r"], ["a", "b"], ["b"]), Unsafe(["o", "o"], ["a", "b"])), True)
        self.assertIs(shows_safe(coin, never_done(["r"], ["a", "b"], ["b"]), Unsafe(["o", "o"], "ab")), False)
        self.assertIs(shows_safe(coin, never_done(["r"], ["a", "b"], ["b"]), Unsafe("oo", ["a", "b"])), False)
        stands = [("p", "w0"), ("q", "w0"), ("x", "w0")]
        watch = anything(DRIFT.labels, DRIFT.deeds)
        self.assertIs(shows_safe(DRIFT, watch, Safe(stands)), True)
        self.assertIs(shows_safe(DRIFT, watch, Unsafe(["p"], ["left"])), False)
        self.assertIs(shows_safe(DRIFT.begun("x"), watch, Safe(stands)), True)
        for wrong in (("p", "broken"), ("z", "w0"), ("p",), "pw", None, True, ("p", "w0", "w0"), (["p"], "w0"), 1):
            self.assertIs(shows_safe(DRIFT, watch, Safe(stands + [wrong])), False)

    def test_any_values(self):
        watch = anything(DRIFT.labels, DRIFT.deeds)
        stands = (("p", "w0"), ("q", "w0"), ("x", "w0"))

        class Lower(Safe):
            pass

        class LowerStill(Unsafe):
            pass
        self.assertIs(shows_safe(DRIFT, NEVER_X, Unsafe(["p", "x"], ["right", "left"])), True)
        self.assertIs(shows_safe(DRIFT, NEVER_X, LowerStill(["p", "x"], ["right", "left"])), False)
        self.assertIs(shows_safe(DRIFT, NEVER_X, other_class("Unsafe", states=("p", "x"), deeds=("right", "left"))), False)
        self.assertIs(shows_safe(DRIFT, watch, other_class("Safe", stands=stands)), False)
        for value in of_every_kind() + [stands, Paper("safe", stands), Denial("unsafe", ["p"], ["left"]), Lower(stands)]:
            self.assertIs(shows_safe(DRIFT, watch, value), False)
            if value != stands and (not isinstance(value, dict) or None not in value):
                for paper in (Safe(value), Safe([value]), Safe([(value, value)]), Unsafe(value, value), Unsafe([value], [value]),
                              Unsafe(["p"], [value]), Unsafe(["p", value], ["left", "right"])):
                    self.assertIs(shows_safe(DRIFT, watch, paper), False)
                    self.assertIs(shows_safe(DRIFT, NEVER_X, paper), False)

    def test_errors(self):
        for value in of_every_kind():
            if not isinstance(value, Watch):
                self.fails(BadWatch("watch"), doomed, value)
                self.fails(BadWatch("watch"), settled, value)
                self.fails(BadWatch("watch"), safe, DRIFT, value)
                self.fails(BadWatch("watch"), shows_safe, DRIFT, value, None)
            if not isinstance(value, World):
                self.fails(BadWorld("world"), safe, value, value)
                self.fails(BadWorld("world"), shows_safe, value, value, value)
        for call in (safe, lambda *told: shows_safe(*told, None)):
            self.fails(NoLabel("r"), call, DRIFT, anything(["l", "z"], ["up"]))
            self.fails(NoLabel("l"), call, DRIFT, anything(["x", "r"], ["left", "right"]))
            self.fails(NoLabel("x"), call, DRIFT.begun("p"), anything(["l", "r"], ["left", "right"]))
            self.fails(Unlike("deeds"), call, DRIFT, anything(["l", "r", "x"], ["left"]))
            self.fails(Unlike("deeds"), call, DRIFT, anything(["l", "r", "x"], ["left", "right", "up"]))
        self.assertTrue(safe(DRIFT, anything(["z", "x", "r", "l"], ["right", "left"])))
