from common import Case, chances, of_every_kind, random_world
from row_hands import rows_by_hand
from test_among import GARDEN, TWICE, set_world, split_world

from dimkeeper.among import worlds_alike
from dimkeeper.classes import classes, is_alike
from dimkeeper.errors import BadGroups, BadWorld, NoState, TooMany, Twice
from dimkeeper.merges import coarsest, merged, merged_pair
from dimkeeper.worlds import World


def merged_by_hand(world, groups):
    order = list(world.states)
    groups = sorted([sorted(group, key=order.index) for group in groups], key=lambda group: order.index(group[0]))
    name = {state: group[0] for group in groups for state in group}
    rows = [(group[0], world.label_of(group[0]),
             [sorted({name[after] for state in group for after in world.nexts(state, deed)}) for deed in world.deeds])
            for group in groups]
    return World(world.deeds, rows, sorted({name[start] for start in world.starts}))


def random_groups(chance, world):
    states, groups = list(world.states), []
    chance.shuffle(states)
    for state in states:
        fitting = [group for group in groups if world.label_of(group[0]) == world.label_of(state)]
        if fitting and chance.random() < 0.5:
            chance.choice(fitting).append(state)
        else:
            groups.append([state])
    return groups


class Merges(Case):

    def test_example(self):
        meet = merged_pair(GARDEN, "fb", "fa")
        self.assertEqual([meet.states, meet.nexts("fa", "left"), coarsest(TWICE).states, coarsest(TWICE).nexts("p", "left")],
                         [("a", "b", "fa", "x"), ("a", "b", "x"), ("p",), ("p",)])

    def test_by_hand(self):
        for chance in chances(150):
            world = random_world(chance, 5, 2, 2)
            groups = random_groups(chance, world)
            told = merged_by_hand(world, groups)
            self.gives(told, merged, world, groups)
            self.gives(told, merged, world, tuple(tuple(group) for group in groups))
            self.gives(world, merged, world, [[state] for state in world])
            a, b = chance.choice(world.states), chance.choice(world.states)
            if world.label_of(a) == world.label_of(b):
                pair = [[a, b]] if a != b else [[a]]
                self.gives(merged_by_hand(world, pair + [[state] for state in world if state not in (a, b)]),
                           merged_pair, world, a, b)
            else:
                self.fails(BadGroups("labels"), merged_pair, world, a, b)
            self.gives(world, merged_pair, world, a, a)
            self.gives(merged_by_hand(world, classes(world)), coarsest, world)

    def test_rows_of_merged_worlds(self):
        seen = {}
        for chance in chances(80):
            world = random_world(chance, 4, 2, 2)
            if chance.random() < 0.5:
                world = split_world(chance, world)
            for a in world:
                for b in world:
                    if a >= b or world.label_of(a) != world.label_of(b):
                        continue
                    one = merged_pair(world, a, b)
                    name = min(a, b, key=world.states.index)
                    given = [rows_by_hand(one.begun(name), many) for many in range(4)]
                    mine = [set(rows_by_hand(world.begun(a), many)) | set(rows_by_hand(world.begun(b), many))
                            for many in range(4)]
                    self.assertTrue(all(rows <= set(told) for rows, told in zip(mine, given)))
                    if is_alike(world, a, b):
                        self.assertTrue(worlds_alike(one.begun(name), world.begun(a)))
                        seen["alike"] = True
                    else:
                        # It gives a row that the world does not give begun at one of the two.
                        self.assertFalse(worlds_alike(one.begun(name), world.begun(a))
                                         and worlds_alike(one.begun(name), world.begun(b)))
                        seen["unlike"] = True
        self.assertEqual(len(seen), 2)

    def test_coarsest_worlds(self):
        smaller = 0
        for chance in chances(80):
            world = split_world(chance, random_world(chance, 4, 2, 2))
            least = coarsest(world)
            self.assertTrue(worlds_alike(world, least))
            self.assertEqual(classes(least), [(state,) for state in least])
            self.assertEqual(coarsest(least), least)
            smaller += len(least) < len(world)
        self.assertGreater(smaller, 30)

    def test_orders(self):
        world = World.read("d ; z l y l x m w l ; y w ; x w / y / z y / x")
        told = merged(world, [["x"], ["w", "z"], ["y"]])
        self.assertEqual(str(told), "d ; z l y l x m ; z y ; z x / y / z y")
        self.assertEqual(str(merged_pair(world, "w", "y")), "d ; z l y l x m ; y ; y x / y x / z y")

    def test_errors(self):
        for value in of_every_kind():
            if not isinstance(value, World):
                self.fails(BadWorld("world"), merged, value, value)
                self.fails(BadWorld("world"), merged_pair, value, value, value)
                self.fails(BadWorld("world"), coarsest, value)
            if value in ([], ()):
                self.fails(BadGroups("states"), merged, GARDEN, value)
            elif not isinstance(value, list) or not all(isinstance(part, (list, tuple)) and part for part in value):
                self.fails(BadGroups("groups"), merged, GARDEN, value)
            if not isinstance(value, (list, tuple)) or not value:
                self.fails(BadGroups("groups"), merged, GARDEN, [["a", "zz"], value])
            if value != "x":
                self.fails(NoState(value), merged, GARDEN, [["a", value, "a"]])
                self.fails(NoState(value), merged_pair, GARDEN, value, value)
                self.fails(NoState(value), merged_pair, GARDEN, "a", value)
        self.fails(Twice("a"), merged, GARDEN, [["a"], ["b", "a", "zz"]])
        self.fails(Twice("a"), merged, GARDEN, [["a", "a"]])
        self.fails(NoState("zz"), merged, GARDEN, [["a", "zz"], ["a"]])
        self.fails(BadGroups("states"), merged, GARDEN, [["a", "b"]])
        self.fails(BadGroups("labels"), merged, GARDEN, [["a", "b"], ["fa"], ["fb", "x"]])
        self.fails(BadGroups("labels"), merged, GARDEN, [["a"], ["b"], ["fa"], ["fb", "x"]])
        self.fails(BadGroups("labels"), merged_pair, GARDEN, "a", "b")
        self.fails(TooMany("sets", 500), coarsest, set_world(9))
        self.assertEqual(len(merged(set_world(9), [set_world(9).states])), 1)
