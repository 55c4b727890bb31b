from common import Case, chances, names, of_every_kind, random_world

from dimkeeper.errors import BadNumbers, BadRow, BadWorld, NoDeed, TooMany
from dimkeeper.rows import count_rows, gives, rows_of, states_after, way_of
from dimkeeper.worlds import World


def garden():
    return World(("left", "right"), [("a", "l", (("fa",), ("fa",))), ("b", "r", (("fb",), ("fb",))),
                                     ("fa", "f", (("a", "b"), ("x",))), ("fb", "f", (("x",), ("a", "b"))),
                                     ("x", "x", (("x",), ("x",)))], ("a", "b"))


def ways(world, deeds):
    """All ways from a start by these deeds."""
    found = [(start,) for start in world.starts]
    for deed in deeds:
        found = [way + (state,) for way in found for state in world.nexts(way[-1], deed)]
    return found


def row_of(world, way, deeds):
    row = [world.label_of(way[0])]
    for deed, state in zip(deeds, way[1:]):
        row += [deed, world.label_of(state)]
    return tuple(row)


def all_deeds(world, many):
    rows = [()]
    for _ in range(many):
        rows = [row + (deed,) for row in rows for deed in world.deeds]
    return rows


class Rows(Case):

    def test_example(self):
        world = garden()
        self.assertEqual([list(rows_of(world, 1))[:2], count_rows(world, 2),
                          states_after(world, ("l", "left", "f", "left", "r"))],
                         [[("l", "left", "f"), ("l", "right", "f")], 12, ("b",)])

    def test_rows_by_hand(self):
        for chance in chances(60):
            world = random_world(chance)
            for many in range(4):
                found = {}
                for deeds in all_deeds(world, many):
                    for way in ways(world, deeds):
                        found.setdefault(row_of(world, way, deeds), []).append(way)
                key = {deed: at for at, deed in enumerate(world.deeds)}
                order = sorted(found, key=lambda row: [key[name] if at % 2 else name for at, name in enumerate(row)])
                self.assertEqual(list(rows_of(world, many)), order)
                self.assertEqual(count_rows(world, many), len(order))
                places = {state: at for at, state in enumerate(world)}
                for row in order:
                    last = {way[-1] for way in found[row]}
                    self.assertEqual(states_after(world, row), tuple(state for state in world if state in last))
                    self.assertIs(gives(world, list(row)), True)
                    first = min(found[row], key=lambda way: [places[state] for state in way])
                    self.assertEqual(way_of(world, row), first)
                    for label in world.labels + ("none",):
                        other = row[:-1] + (label,)
                        if other not in found:
                            self.assertEqual(states_after(world, other), ())
                            self.assertIs(gives(world, other), False)
                            self.assertIsNone(way_of(world, list(other)))

    def test_states_that_do_not_come_about_change_no_row(self):
        for chance in chances(30):
            world = random_world(chance)
            for many in range(4):
                rows = list(rows_of(world, many))
                self.assertEqual(list(rows_of(world.cut(), many)), rows)
                self.assertEqual({row[:-2] for row in rows_of(world, many + 1)}, set(rows))

    def test_rows_with_no_deeds(self):
        world = garden()
        self.assertEqual(list(rows_of(world, 0)), [("l",), ("r",)])
        self.assertEqual((count_rows(world, 0), states_after(world, ["r"]), way_of(world, ["r"])), (2, ("b",), ("b",)))
        self.assertEqual((gives(world, ["f"]), gives(world, ["l"]), gives(world, ["none"])), (False, True, False))

    def test_labels_that_the_world_lacks(self):
        world = garden()
        self.assertEqual(states_after(world, ("none", "left", "f")), ())
        self.assertEqual(states_after(world, ("l", "left", "none", "left", "none")), ())
        self.fails(NoDeed("up"), states_after, world, ("none", "up", "f"))

    def test_bad_rows(self):
        world = garden()
        for call in (states_after, gives, way_of):
            for value in of_every_kind():
                self.fails(BadRow("row"), call, world, value)
                if value != "x":
                    self.fails(BadRow("row"), call, world, ["l", "left", value])
                    self.fails(BadRow("row"), call, world, ["l", value, "f"])
                if not isinstance(value, World):
                    self.fails(BadWorld("world"), call, value, value)
            self.fails(BadRow("row"), call, world, ["l", "left"])
            self.fails(BadRow("row"), call, world, "l")
            self.fails(BadRow("row"), call, world, {"l": 1})
            self.fails(BadRow("row"), call, world, ["l", "up", "f", "left"])
            self.fails(NoDeed("up"), call, world, ["l", "left", "f", "up", "f", "down", "f"])
            self.fails(NoDeed("f"), call, world, ["l", "f", "left"])

    def test_bad_numbers(self):
        for call in (lambda *told: list(rows_of(*told)), count_rows):
            for value in of_every_kind():
                if value == 10 ** 5000:
                    continue
                if type(value) is not int or value < 0:
                    self.fails(BadNumbers("many"), call, garden(), value)
                if not isinstance(value, World):
                    self.fails(BadWorld("world"), call, value, value)

    def test_too_many(self):
        still = World(["d"], [("s", "l", [["s"]])], ["s"])
        self.assertEqual(len(list(rows_of(still, 8))), 1)
        self.fails(TooMany("deeds", 8), lambda: list(rows_of(still, 9)))
        self.fails(TooMany("deeds", 8), lambda: list(rows_of(still, 10 ** 5000)))
        self.assertEqual(count_rows(still, 60), 1)
        self.fails(TooMany("deeds", 60), count_rows, still, 61)
        self.assertEqual(len(list(rows_of(garden(), 8))), count_rows(garden(), 8))

    def test_sets(self):
        coin = World(["a", "b"], [("s", "l", [["s", "t"]] * 2), ("t", "m", [["s", "t"]] * 2)], ["s"])
        self.assertEqual(count_rows(coin, 60), 4 ** 60)

    def test_sets_at_the_bound(self):
        self.assertEqual(count_rows(counting_world(4), 55), 15 * 12 ** 54)
        self.fails(TooMany("sets", 500), count_rows, counting_world(5), 55)
        self.assertEqual(count_rows(counting_world(5), 54), 16 * 12 ** 53)
        self.fails(TooMany("sets", 500), count_rows, counting_world(4), 56)
        self.fails(TooMany("deeds", 60), count_rows, counting_world(5), 61)

    def test_rows_of_a_world_of_many_sets(self):
        self.assertEqual(len(list(rows_of(counting_world(5), 2))), 16 * 12)


def counting_world(spare):
    """1 + 9 * many + spare sets stand behind the rows of at most many deeds, many from 1 to 56.

    Each of nine deeds leads from the start into two rings of 7 and 8 states, a tenth one to the spare states.
    """
    deeds = names("d", 12)
    rest = [f"e{at}" for at in range(spare)]
    rows = [("s", "l", [[f"a{at}x0", f"b{at}x0"] for at in range(9)] + [rest, ["e0"], ["e0"]])]
    for at in range(9):
        for letter, size in (("a", 7), ("b", 8)):
            rows += [(f"{letter}{at}x{step}", "l", [[f"{letter}{at}x{(step + 1) % size}"]] * 12) for step in range(size)]
    rows += [(name, name, [[name]] * 12) for name in rest]
    return World(deeds, rows, ["s"])
