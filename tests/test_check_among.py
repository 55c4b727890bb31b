from bending import bent
from common import Case, chances, of_every_kind, other_class
from test_among import GARDEN, STILL, TWICE, random_pair, set_world

from dimkeeper.among import Parting, Shared, rows_among
from dimkeeper.check_among import shows_among
from dimkeeper.checks import is_name
from dimkeeper.papers import Denial, Paper
from dimkeeper.worlds import World


def are_states(world, row):
    return isinstance(row, tuple) and all(state in world for state in row)


def shared_is_right(one, other, pairs):
    if not isinstance(pairs, tuple):
        return False
    for pair in pairs:
        if not isinstance(pair, tuple) or len(pair) != 2 or pair[0] not in one or not are_states(other, pair[1]):
            return False
        if pair[1] == () or any(other.label_of(state) != one.label_of(pair[0]) for state in pair[1]):
            return False
    for start in one.starts:
        if not any(state == start and set(among) <= set(other.starts) for state, among in pairs):
            return False
    for state, among in pairs:
        for deed in one.deeds:
            behind = {after for kept in among for after in other.nexts(kept, deed)}
            for after in one.nexts(state, deed):
                if not any(told == after and set(held) <= behind for told, held in pairs):
                    return False
    return True


def parting_is_right(one, other, row, way, sets):
    if not isinstance(row, tuple) or len(row) % 2 == 0 or not all(is_name(name) for name in row):
        return False
    labels, deeds = row[::2], row[1::2]
    if not all(deed in one.deeds for deed in deeds) or not are_states(one, way) or len(way) != len(labels):
        return False
    if way[0] not in one.starts or tuple(one.label_of(state) for state in way) != labels:
        return False
    if not all(after in one.nexts(state, deed) for state, deed, after in zip(way, deeds, way[1:])):
        return False
    if not isinstance(sets, tuple) or len(sets) != len(labels) or not all(are_states(other, told) for told in sets):
        return False
    ahead = [other.starts] + [[after for state in told for after in other.nexts(state, deed)]
                              for told, deed in zip(sets, deeds)]
    return sets[-1] == () and all(state in told for told, behind, label in zip(sets, ahead, labels)
                                  for state in behind if other.label_of(state) == label)


class CheckAmong(Case):

    def test_bent_papers(self):
        seen = {}
        for chance in chances(400):
            one, other = random_pair(chance)
            paper = rows_among(one, other)
            others = [*one.states, *other.states, *one.labels, *other.labels, *one.deeds, (), 1, None, "Odd", other.states,
                      *paper.parts[0]]
            for _ in range(10):
                parts = bent(chance, paper.parts, others)
                if len(parts) != len(paper.parts):
                    continue
                if paper:
                    right, told = shared_is_right(one, other, *parts), Shared(*parts)
                else:
                    right, told = parting_is_right(one, other, *parts), Parting(*parts)
                self.assertIs(shows_among(one, other, told), right, parts)
                seen[paper.word, right] = seen.get((paper.word, right), 0) + 1
        self.assertEqual(len(seen), 4, seen)

    def test_smaller_sets_and_more_pairs(self):
        world = World.read("d ; s l t l u m ; s t ; u / u / u")
        self.assertEqual(rows_among(world, world).pairs, (("s", ("s", "t")), ("t", ("s", "t")), ("u", ("u",))))
        for pairs, right in [((("s", ("s",)), ("t", ("s",)), ("u", ("u",))), True),
                             ((("s", ("t",)), ("t", ("t", "s")), ("u", ("u",)), ("s", ("s",))), True),
                             ((("s", ("t", "t")), ("t", ("t",)), ("u", ("u",))), True),
                             ((("s", ("t",)), ("s", ("t",)), ("t", ("t",)), ("u", ("u",))), True),
                             ((("s", ("s",)), ("u", ("u",))), False), ((("s", ("s",)), ("t", ("s",))), False),
                             ((("s", ()), ("t", ("s",)), ("u", ("u",))), False),
                             ((("s", ("u",)), ("t", ("s",)), ("u", ("u",))), False), ((), False)]:
            self.assertIs(shows_among(world, world, Shared(pairs)), right)
        # A set of other that has more than the starts is no pair of a start.
        self.assertIs(shows_among(world.begun("s"), world.begun("s"), Shared([("s", ("s", "t")), ("u", ("u",))])), False)
        self.assertIs(shows_among(world.begun("s"), world.begun("s"), Shared([("s", ("s",)), ("u", ("u",))])), True)

    def test_labels_that_other_shows_elsewhere(self):
        one = World.read("d ; s l t m ; s ; t / t")
        pairs = Shared([("s", ("a",)), ("t", ("b",))])
        for text, right in [("d ; a l b m ; a ; b / b", True), ("d ; a l b m ; a ; a / b", False),
                            ("d ; b m a l ; a ; b / a", False), ("d ; a l b m ; b ; b / b", False),
                            ("d ; b m a l ; b ; b / b", False)]:
            self.assertIs(shows_among(one, World.read(text), pairs), right, text)

    def test_longer_rows_and_wider_sets(self):
        one, other = GARDEN.begun("fa"), GARDEN.begun("fb")
        for row, way, sets, right in [
                (("f", "left", "l"), ("fa", "a"), (("fb",), ()), True), (("f", "left", "r"), ("fa", "b"), (("fb",), ()), True),
                (("f", "left", "l"), ("fa", "a"), (("fb", "x"), ()), True),
                (("f", "left", "l"), ("fa", "a"), (("fb", "fa"), ()), False),
                (("f", "left", "l"), ("fa", "a"), (("fb",), ("a",)), False), (("f", "left", "l"), ("fa", "b"), (("fb",), ()), False),
                (("f", "left", "l", "left", "f"), ("fa", "a", "fa"), (("fb",), (), ()), True),
                (("f", "left", "l", "left", "f"), ("fa", "a", "fa"), (("fb",), ("x",), ()), True),
                (("f", "left", "l", "left", "f"), ("fa", "a", "fa"), (("fb",), ("b",), ()), False),
                (("f", "up", "l"), ("fa", "a"), (("fb",), ()), False), (("f", "left"), ("fa",), (("fb",),), False),
                (("f", "left", "l"), ("fa", "a"), ((), ()), False), (("x",), ("x",), ((),), False),
                (("f", "right", "x"), ("fb", "x"), (("fb",), ()), False), (("f", "right", "x"), ("fa", "x"), (("fb",), ()), True),
                (("f",), ("fa",), ((),), False), ((), (), (), False), (("F",), ("fa",), ((),), False)]:
            self.assertIs(shows_among(one, other, Parting(row, way, sets)), right, (row, way, sets))

    def test_ways_from_a_start(self):
        one, other = GARDEN.begun("fa"), GARDEN.begun("x")
        for way, right in ((("fa",), True), (("fb",), False), (("a",), False), (("fa", "a"), False), ((), False)):
            self.assertIs(shows_among(one, other, Parting(["f"], way, [()])), right)

    def test_any_values(self):
        class Lower(Shared):
            pass

        class LowerParting(Parting):
            pass
        pairs = (("o", ("p",)), ("o", ("q",)))
        one, other = GARDEN.begun("a"), GARDEN.begun("b")
        self.assertIs(shows_among(one, other, Parting(["l"], ["a"], [()])), True)
        for value in (LowerParting(["l"], ["a"], [()]), Denial("parting", ["l"], ["a"], [()]),
                      other_class("Parting", row=("l",), way=("a",), sets=((),))):
            self.assertIs(shows_among(one, other, value), False)
        self.assertIs(shows_among(STILL, TWICE, Shared(pairs)), True)
        for value in of_every_kind() + [Lower(pairs), Paper("shared", pairs), other_class("Shared", pairs=pairs), pairs,
                                        Denial("parting", ["l"], ["o"], [()])]:
            self.assertIs(shows_among(STILL, TWICE, value), False)
            if value != pairs and (not isinstance(value, dict) or None not in value):
                for paper in (Shared(value), Shared(pairs + (value,)), Shared(pairs + (("o", value),)),
                              Shared(pairs + ((value, ("p",)),)), Shared(pairs + (("o", ("p", value)),)),
                              Parting(value, value, value), Parting(["f", "left", "l"], value, [["p"], []]),
                              Parting(["l"], ["o"], [value]), Parting([value], ["o"], [()])):
                    self.assertIs(shows_among(STILL, TWICE, paper), False)

    def test_worlds_with_many_sets(self):
        # No TooMany is raised here.
        world = set_world(9)
        one = World(world.deeds, [("o", "l", [["o"]] * 3)], ["o"])
        self.assertIs(shows_among(one, world, Shared([("o", (state,)) for state in world])), True)
        self.assertIs(shows_among(one, world, Parting(["l"], ["o"], [()])), False)
