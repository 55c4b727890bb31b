from common import Case, chances, of_every_kind, random_world
from row_hands import alike_by_hand, parting_by_hand
from test_among import GARDEN, TWICE, more_states, set_world, split_world, two_parts

from dimkeeper.among import rows_among, worlds_alike
from dimkeeper.check_among import shows_among
from dimkeeper.classes import classes, is_alike, parted
from dimkeeper.errors import BadWorld, NoState, TooMany
from dimkeeper.worlds import World


def first_key(world, row):
    return len(row), [world.deeds.index(name) if at % 2 else name for at, name in enumerate(row)]


class Classes(Case):

    def test_example(self):
        self.assertEqual([classes(GARDEN), classes(TWICE), parted(GARDEN, "fb", "fa")[0], parted(GARDEN, "a", "b")[1].row],
                         [[("a",), ("b",), ("fa",), ("fb",), ("x",)], [("p", "q")], "fa", ("l",)])

    def test_by_hand(self):
        seen = {}
        for chance in chances(120):
            world = random_world(chance, 4, 2, 2)
            if chance.random() < 0.6:
                world = split_world(chance, world)
            alike = {(a, b): alike_by_hand(world, a, b) for a in world for b in world}
            told = []
            for state in world:
                group = tuple(one for one in world if alike[state, one])
                told += [] if group in told else [group]
            self.gives(told, classes, world)
            for (a, b), same in alike.items():
                self.gives(same, is_alike, world, a, b)
                if same:
                    self.assertIsNone(parted(world, a, b))
                    continue
                rows = [(one, parting_by_hand(world.begun(one), world.begun(two))) for one, two in ((a, b), (b, a))]
                one, row = min([pair for pair in rows if pair[1]], key=lambda pair: first_key(world, pair[1]))
                paper = rows_among(world.begun(one), world.begun(b if one == a else a))
                self.gives((one, paper), parted, world, a, b)
                self.assertEqual(paper.row, row)
                self.assertIs(shows_among(world.begun(one), world.begun(b if one == a else a), paper), True)
                key = one == a, len(row)
                seen[key] = seen.get(key, 0) + 1
            seen[len(told) < len(world)] = True
        self.assertTrue({(True, 1), (False, 1), (True, 3), (False, 3), (True, 5), (False, 5), True, False} <= set(seen), seen)

    def test_states_that_differ_late(self):
        # Two tails that differ at their end alone; states that come about or not are told.
        many = 30
        rows = [(f"{side}{at}", "l", [[f"{side}{at + 1}"]]) for side in "st" for at in range(many)]
        world = World(["d"], rows + [(f"s{many}", "l", [["s30"]]), (f"t{many}", "m", [["t30"]])], ["s0"])
        self.assertEqual(len(classes(world)), 32)
        self.assertEqual(len(parted(world, "s0", "t0")[1].row), 61)
        # At the same place one shows l, the other one m: the row with l is the lesser one.
        self.assertEqual([parted(world, "t0", "s0")[0], parted(world, "s0", "t1")[0]], ["s0", "s0"])
        self.assertIs(is_alike(world, "s0", "s29"), True)
        self.assertIs(is_alike(world, "s0", "t3"), False)

    def test_worlds_begun_at_alike_states(self):
        for chance in chances(40):
            world = split_world(chance, random_world(chance, 3, 2, 2))
            for group in classes(world):
                for state in group:
                    self.assertTrue(worlds_alike(world.begun(group[0]), world.begun(state)))

    def test_numbers_of_sets(self):
        full, over = two_parts(245), two_parts(246)
        self.assertEqual(sum(len(group) for group in classes(full)), len(full))
        self.assertIs(is_alike(full, "s0", "m0"), True)
        for call in (classes, lambda world: is_alike(world, "s0", "s1"), lambda world: parted(world, "s0", "s1")):
            self.fails(TooMany("sets", 500), call, over)
            self.fails(TooMany("sets", 500), call, set_world(9))
        self.assertEqual(classes(more_states(set_world(8), 100))[0], full.begun("s0").states[:8] + tuple(f"m{at}" for at in range(100)))
        # The starts count, too: of both labels together they are more sets.
        states = [f"z{at}" for at in range(2)]
        self.fails(TooMany("sets", 500), classes, World(full.deeds, [(state, "l", [full.nexts(state, deed) for deed in full.deeds])
                                                                     for state in full] + [(state, "l", [[state]] * 3)
                                                                                           for state in states], ["z0", "z1"]))

    def test_errors(self):
        for value in of_every_kind():
            if not isinstance(value, World):
                self.fails(BadWorld("world"), classes, value)
                self.fails(BadWorld("world"), is_alike, value, value, value)
                self.fails(BadWorld("world"), parted, value, value, value)
            for call in (is_alike, parted):
                self.fails(NoState(value), call, set_world(9), value, value)
                if value != "x":
                    self.fails(NoState(value), call, GARDEN, "a", value)
                    self.fails(NoState(value), call, GARDEN, value, "zz")
