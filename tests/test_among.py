from common import Case, chances, names, of_every_kind, random_world
from row_hands import pairs_by_hand, parting_by_hand, sets_by_hand
from test_rows import garden

from dimkeeper.among import Parting, Shared, rows_among, worlds_alike
from dimkeeper.blurs import Blur
from dimkeeper.check_among import shows_among
from dimkeeper.closed import holds
from dimkeeper.errors import BadWorld, TooMany, Unlike
from dimkeeper.forced import judge
from dimkeeper.keepers import count_kept
from dimkeeper.papers import Denial, Paper
from dimkeeper.rows import gives, states_after, way_of
from dimkeeper.tables import Table
from dimkeeper.tasks import Task
from dimkeeper.watches import Watch
from dimkeeper.worlds import World

STILL = World(("left", "right"), [("o", "l", (("o",), ("o",)))], ("o",))
TWICE = World(("left", "right"), [("p", "l", (("q",), ("q",))), ("q", "l", (("p",), ("p",)))], ("p",))
GARDEN = garden()


def same_deeds(chance, world, **more):
    """Another random world with the same deeds."""
    while True:
        other = random_world(chance, **more)
        if len(other.deeds) == len(world.deeds):
            rows = [(state, other.label_of(state), [other.nexts(state, deed) for deed in other.deeds]) for state in other]
            return World(world.deeds, rows, other.starts)


def split_world(chance, world):
    """A world that is alike: some states stand twice, each leads to either or both."""
    copies = {state: [state] + ([f"{state}.b"] if chance.random() < 0.5 else []) for state in world}

    def spread(states):
        told = []
        for state in states:
            told += chance.choice([copies[state][:1], copies[state][-1:], copies[state]])
        return told

    rows = [(copy, world.label_of(state), [spread(world.nexts(state, deed)) for deed in world.deeds])
            for state in world for copy in copies[state]]
    chance.shuffle(rows)
    return World(world.deeds, rows, spread(world.starts))


def set_world(many):
    """A world that has 2 ** many - 1 sets: so many states, which a shift, a choice and a loss of a state make."""
    states = names("s", many)
    turn = [[states[(at + 1) % many]] for at in range(many)]
    grow = [[states[0], states[1]]] + [[state] for state in states[1:]]
    drop = [[states[1]]] + [[state] for state in states[1:]]
    return World(["turn", "grow", "drop"], [(state, "l", [turn[at], grow[at], drop[at]]) for at, state in enumerate(states)],
                 ["s0"])


def more_states(world, many):
    """The same world with so many states more that do not come about: each is one set more."""
    rows = [(state, world.label_of(state), [world.nexts(state, deed) for deed in world.deeds]) for state in world]
    return World(world.deeds, rows + [(state, "l", [[world.states[0]]] * len(world.deeds)) for state in names("m", many)],
                 world.starts)


def random_pair(chance, alike=0.5):
    """Two small worlds with the same deeds; often they are alike but for the numbers of their states."""
    one = random_world(chance, 3, 2, 2)
    other = split_world(chance, one) if chance.random() < alike else same_deeds(chance, one, most_states=4, most_labels=2)
    return (other, one) if chance.random() < 0.3 else (one, other)


class Among(Case):

    def test_example(self):
        self.assertEqual([rows_among(STILL, TWICE).pairs, worlds_alike(STILL, TWICE)], [(("o", ("p",)), ("o", ("q",))), True])
        paper = rows_among(GARDEN.begun("fa"), GARDEN.begun("fb"))
        self.assertEqual([paper.row, paper.way, paper.sets], [("f", "left", "l"), ("fa", "a"), (("fb",), ())])

    def test_papers(self):
        papers = [Shared([["s", ["t"]]]), Parting(["l"], ["s"], [[]])]
        self.assertEqual([(paper.word, paper.parts, bool(paper), isinstance(paper, Denial)) for paper in papers],
                         [("shared", ((("s", ("t",)),),), True, False), ("parting", (("l",), ("s",), ((),)), False, True)])
        self.assertEqual((papers[0].pairs, papers[1].row, papers[1].way, papers[1].sets),
                         ((("s", ("t",)),), ("l",), ("s",), ((),)))
        self.assertEqual(Parting(sets=[()], way=["s"], row=["l"]), papers[1])
        self.assertEqual(Shared(pairs=[("s", ("t",))]), papers[0])
        self.same(papers + [Shared([]), Parting(["l"], ["s"], []), Paper("shared", [["s", ["t"]]])])

    def test_by_hand(self):
        seen = {}
        for chance in chances(300):
            one, other = random_pair(chance)
            pairs = pairs_by_hand(one, other)
            paper = rows_among(one, other)
            self.assertEqual(paper, rows_among(one, other))
            self.assertIs(shows_among(one, other, paper), True)
            if all(among for _, among in pairs):
                self.assertEqual(paper, Shared(pairs))
                self.assertIsNone(parting_by_hand(one, other, 5))
                key = "shared"
            else:
                row = parting_by_hand(one, other)
                self.assertEqual(paper.row, row)
                self.assertEqual(paper.way, way_of(one, row))
                self.assertEqual(paper.sets, tuple(states_after(other, row[:at]) for at in range(1, len(row) + 1, 2)))
                self.assertTrue(gives(one, row) and not gives(other, row))
                key = len(row) // 2
            seen[key] = seen.get(key, 0) + 1
            back = all(among for _, among in pairs_by_hand(other, one))
            self.gives(key == "shared" and back, worlds_alike, one, other)
            seen[key == "shared", back] = True
        self.assertTrue({"shared", 0, 1, 2} <= set(seen), seen)
        # Alike, among one another's one way only, and neither way.
        self.assertTrue({(mine, back) for mine in (True, False) for back in (True, False)} <= set(seen), seen)

    def test_long_parting_rows(self):
        # Two rings of 3 and of 4 states, of which one shows another label; they differ at the third moment.
        three = World.read("d ; a l b l c m ; a ; b / c / a")
        four = World.read("d ; a l b l c l e m ; a ; b / c / e / a")
        self.gives(Parting(["l", "d", "l", "d", "m"], ["a", "b", "c"], [["a"], ["b"], []]), rows_among, three, four)
        self.gives(Parting(["l", "d", "l", "d", "l"], ["a", "b", "c"], [["a"], ["b"], []]), rows_among, four, three)
        rings = [World(["d"], [(f"s{at}", "m" if at == many - 1 else "l", [[f"s{(at + 1) % many}"]]) for at in range(many)],
                       ["s0"]) for many in (11, 12)]
        self.assertEqual(len(rows_among(*rings).row), 21)

    def test_the_least_row(self):
        # Fewer deeds come first, then labels as texts, then deeds in the order of the worlds.
        one = World(["b", "a"], [("s", "m", [["t"], ["t"]]), ("t", "k", [["u"], ["u"]]), ("u", "n", [["u"], ["u"]]),
                                 ("v", "l", [["t", "u"], ["u", "t"]])], ["s", "v"])
        other = World(["b", "a"], [("s", "m", [["s"], ["s"]]), ("v", "l", [["s"], ["s"]])], ["s", "v"])
        self.assertEqual(rows_among(one, other).row, ("l", "b", "k"))
        self.assertEqual(rows_among(one, other).way, ("v", "t"))
        other = World(["b", "a"], [("s", "m", [["s"], ["k"]]), ("v", "l", [["k"], ["k", "n"]]), ("k", "k", [["k"], ["k"]]),
                                   ("n", "n", [["n"], ["n"]])], ["s", "v"])
        self.assertEqual(rows_among(one, other).row, ("l", "b", "n"))
        self.assertEqual(rows_among(one, other).sets, (("v",), ()))
        self.assertEqual(rows_among(one.begun("s"), other).row, ("m", "b", "k"))
        self.assertEqual(rows_among(World(["b", "a"], [("s", "z", [["s"], ["s"]]), ("t", "y", [["t"], ["t"]])], ["s", "t"]), other),
                         Parting(["y"], ["t"], [()]))

    def test_facts_about_tables(self):
        # Where the rows of one are among those of other, what holds in other holds in one.
        seen = set()
        for chance in chances(200):
            one, other = random_pair(chance, 0.6)
            labels = sorted({*one.labels, *other.labels})
            rows = [("w", [[chance.choice(["w", "v", "broken"]) for _ in one.deeds] for _ in labels]),
                    ("v", [[chance.choice(["w", "v", "v"]) for _ in one.deeds] for _ in labels])]
            watch = Watch(labels, one.deeds, rows)
            blur = Blur({label: chance.choice(["x", "y"]) for label in labels})
            tasks = Task(one, blur, watch), Task(other, blur, watch)
            pages = chance.randint(1, 2)
            table = Table(pages, [(page, sight, chance.choice(one.deeds), chance.randint(1, pages)) for page in
                                  range(1, pages + 1) for sight in ("x", "y")])
            if rows_among(one, other) and holds(tasks[1], table):
                self.assertTrue(holds(tasks[0], table))
                seen.add("held")
            if worlds_alike(one, other):
                self.assertEqual(count_kept(tasks[0], 1), count_kept(tasks[1], 1))
                papers = judge(tasks[0]), judge(tasks[1])
                self.assertEqual(papers[0].word, papers[1].word)
                if not papers[0]:
                    self.assertEqual(papers[0].number, papers[1].number)
                    seen.add("lost")
        self.assertEqual(len(seen), 2)

    def test_numbers_of_sets(self):
        for chance in chances(40):
            world = random_world(chance, 4, 2, 2)
            many = len(sets_by_hand(world))
            self.assertLessEqual(many, 500)
        # 8 states have 255 sets, 9 have 511; states that do not come about are sets, too.
        self.assertEqual(len(sets_by_hand(set_world(4))), 15)
        small = World(["turn", "grow", "drop"], [("s", "l", [["s"]] * 3)], ["s"])
        full = more_states(set_world(8), 192)
        self.assertEqual(len(full), 200)
        self.assertTrue(worlds_alike(small, full))
        # Two parts that do not meet have the sets of both: 255 and so many more as are wanted.
        both = two_parts(245)
        self.assertTrue(worlds_alike(both, both))
        self.assertTrue(rows_among(small, both))
        over = two_parts(246)
        self.fails(TooMany("sets", 500), rows_among, small, over)
        self.assertTrue(rows_among(over, small))
        for told in ((small, over), (over, small), (over, over)):
            self.fails(TooMany("sets", 500), worlds_alike, *told)
        self.fails(TooMany("sets", 500), rows_among, small, set_world(9))
        # Both are counted, also where the rows of the one are not among those of the other.
        odd = World(small.deeds, [("s", "m", [["s"]] * 3)], ["s"])
        self.fails(TooMany("sets", 500), worlds_alike, over, odd)
        self.fails(TooMany("sets", 500), worlds_alike, odd, over)
        self.fails(TooMany("sets", 500), rows_among, odd, over)
        self.assertFalse(rows_among(over, odd))

    def test_errors(self):
        for call in (rows_among, worlds_alike, lambda *told: shows_among(*told, None)):
            for value in of_every_kind():
                if not isinstance(value, World):
                    self.fails(BadWorld("one"), call, value, value)
                    self.fails(BadWorld("other"), call, GARDEN, value)
            self.fails(Unlike("deeds"), call, GARDEN, World.read("right left ; s l ; s ; s , s"))
            self.fails(Unlike("deeds"), call, World.read("left ; s l ; s ; s"), GARDEN)
            self.fails(Unlike("deeds"), call, World.read("left ; s l ; s ; s"), set_world(9))


def two_parts(many):
    """A world with 255 sets of one part, and so many of another one."""
    base = set_world(8)
    rows = [(state, "l", [base.nexts(state, deed) for deed in base.deeds]) for state in base]
    # 7 states more have 127 sets, single ones that lead nowhere else are one set each.
    more = set_world(7)
    rows += [(f"x.{state}", "l", [[f"x.{after}" for after in more.nexts(state, deed)] for deed in more.deeds]) for state in more]
    return World(base.deeds, rows + [(state, "l", [[state]] * 3) for state in names("m", many - 127)], ["s0"])
