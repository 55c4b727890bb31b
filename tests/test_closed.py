from common import Case, chances, of_every_kind, random_task
from table_hands import (cells_of, chosen, ends_by_hand, lacking_by_hand, random_table, triples_by_hand, walk_by_hand,
                         plays_by_hand, layers_by_hand)
from test_plays import FLAT, SEEN, TABLE, TASK

from dimkeeper.blurs import Blur
from dimkeeper.closed import Broken, Holds, Lacks, Serves, holds, serves
from dimkeeper.errors import BadTable, BadTask, Unlike
from dimkeeper.made import beside, either, paired
from dimkeeper.papers import Denial, Paper
from dimkeeper.plays import Play
from dimkeeper.promises import again, anything, both, never
from dimkeeper.tables import Table
from dimkeeper.tasks import Task
from dimkeeper.watches import Watch
from dimkeeper.worlds import World


def first_play_to(task, cells, cell):
    """The states of the first of the shortest plays that come to a cell, by a trial of all."""
    for many in range(1, 10):
        for states in plays_by_hand(task, cells, many):
            page = 1
            for state in states[:-1]:
                page = cells[page, task.sight_of(state)][1]
            if (page, task.sight_of(states[-1])) == cell:
                return states
    return None


def first_broken(task, cells):
    """The first of the shortest plays that break, by a trial of all plays."""
    for many in range(1, 10):
        for first, state in [(kept, state) for state, kept in task.standing]:
            for states in plays_by_hand(task.changed(standing=[(state, first)]), cells, many):
                page, kept = 1, first
                for one in states:
                    deed, page = cells[page, task.sight_of(one)]
                    kept = kept if kept == "broken" else task.place_of((one, kept), deed)
                if kept == "broken":
                    return first, states
    return None


class Closed(Case):

    def test_example(self):
        self.assertEqual([holds(TASK, TABLE).triples, holds(TASK, FLAT) == Broken("x", ["o", "o"]),
                          holds(TASK, Table(2, [(1, "r", "a", 2)])) == Lacks(2, "r", ["o", "o"])],
                         [(("o", 1, "x"), ("o", 2, "y")), True, True])

    def test_papers(self):
        papers = [Serves([["s", 1]]), Holds([["s", 1, "w"]]), Lacks(1, "s", ["a"]), Broken("w", ["a"])]
        self.assertEqual([(paper.word, paper.parts, bool(paper), isinstance(paper, Denial)) for paper in papers],
                         [("serves", ((("s", 1),),), True, False), ("holds", ((("s", 1, "w"),),), True, False),
                          ("lacks", (1, "s", ("a",)), False, True), ("broken", ("w", ("a",)), False, True)])
        self.assertEqual((papers[0].spots, papers[1].triples), ((("s", 1),), (("s", 1, "w"),)))
        self.assertEqual((papers[2].page, papers[2].sight, papers[2].states), (1, "s", ("a",)))
        self.assertEqual((papers[3].first, papers[3].states), ("w", ("a",)))
        self.assertEqual(Lacks(states=["a"], sight="s", page=1), papers[2])
        self.assertEqual(Broken(states=("a",), first="w"), papers[3])
        self.assertEqual((Serves(spots=(("s", 1),)), Holds(triples=(("s", 1, "w"),))), (papers[0], papers[1]))
        self.same(papers + [Broken("w", ["a", "a"]), Lacks(2, "s", ["a"])])
        self.assertFalse(Serves([]) == Paper("serves", []))

    def test_serves_by_hand(self):
        seen = {}
        for chance in chances(250):
            task = random_task(chance)
            table = random_table(chance, task)
            cells = cells_of(table)
            lacking = lacking_by_hand(task, cells)
            if lacking is None:
                self.gives(Serves(walk_by_hand(task, cells)), serves, task, table)
            else:
                self.gives(Lacks(*lacking, first_play_to(task, cells, lacking)), serves, task, table)
                self.assertEqual(holds(task, table), serves(task, table))
            seen[lacking is None] = seen.get(lacking is None, 0) + 1
        self.assertGreater(min(seen.values()), 40)

    def test_holds_by_hand(self):
        seen = {}
        for chance in chances(250):
            task = random_task(chance, most_states=4)
            table = chosen(chance, task, random_table(chance, task, lacking=0))
            cells = cells_of(table)
            told = ends_by_hand(task, cells)[0]
            if told is None:
                paper = Holds(triples_by_hand(task, cells))
            else:
                paper = Broken(*told)
                self.assertEqual(told, first_broken(task, cells))
                self.assertEqual(Play(task, table, told[1], told[0]).breaks_at, len(told[1]) - 1)
            self.gives(paper, holds, task, table)
            key = None if told is None else len(told[1])
            seen[key] = seen.get(key, 0) + 1
        self.assertTrue({None, 1, 2, 3, 4} <= set(seen), seen)

    def test_the_first_of_the_shortest(self):
        # Both s and u break at moment 1, by t and by v; s comes first, also where the watch of u breaks earlier in order.
        watch = Watch(["l", "m"], ["a", "b"], [("x", [["y", "x"], ["y", "x"]]), ("y", [["broken"] * 2] * 2),
                                              ("z", [["y", "z"], ["broken", "y"]])])
        task = SEEN.changed(watch=watch, standing=[("u", "x"), ("s", "z"), ("s", "x")])
        table = Table(1, [(1, "l", "a", 1), (1, "m", "a", 1)])
        self.gives(Broken("x", ["s", "s"]), holds, task, table)
        self.gives(Broken("z", ["u"]), holds, task.changed(standing=[("u", "z"), ("s", "x"), ("s", "z")]), table)
        self.gives(Broken("z", ["s", "s"]), holds, task.changed(standing=[("u", "x"), ("s", "z")]), table)
        # A cell that lacks an entry is told ahead of a break, be it of a later moment.
        lacking = Table(2, [(1, "l", "a", 1), (1, "m", "a", 2)])
        self.gives(Lacks(2, "l", ["u", "s"]), holds, task, lacking)
        self.gives(Lacks(2, "l", ["u", "s"]), serves, task, lacking)

    def test_the_watch_is_not_asked_whether_a_table_serves(self):
        never_l = never(["l", "m"], ["a", "b"], ["l"])
        task = SEEN.changed(watch=never_l)
        table = Table(2, [(1, "l", "a", 1), (1, "m", "b", 2), (2, "m", "a", 1)])
        self.assertEqual(serves(task, table), serves(SEEN, table))
        self.gives(Serves([("s", 1), ("u", 1), ("t", 1), ("u", 2), ("v", 1), ("v", 2)]), serves, task, table)
        self.gives(Broken("w0", ["s"]), holds, task, table)

    def test_a_promise_about_either_world(self):
        for chance in chances(60):
            task = random_task(chance, most_states=3)
            other = random_task(chance, most_states=3)
            if task.world.deeds != other.world.deeds:
                continue
            labels = sorted(set(task.world.labels) | set(other.world.labels))
            blur = Blur({label: chance.choice(["u", "v"]) for label in labels})
            watch = Watch(labels, task.world.deeds, [
                ("w", [[chance.choice(["w", "k", "k", "broken"]) for _ in task.world.deeds] for _ in labels]),
                ("k", [[chance.choice(["w", "k", "k"]) for _ in task.world.deeds] for _ in labels])])
            one, two = Task(task.world, blur, watch), Task(other.world, blur, watch)
            table = random_table(chance, one)
            whole = Task(either(task.world, other.world), blur, watch)
            self.assertIs(bool(holds(whole, table)), bool(holds(one, table)) and bool(holds(two, table)))
            # States that do not come about, and parts of the blur that are not shown, change nothing.
            self.assertEqual(bool(holds(Task(one.world.cut(), blur, watch), table)), bool(holds(one, table)))

    def test_two_worlds_beside_each_other(self):
        coin = World.read("a b ; o r p s ; o ; p , o / o , p")
        clock = World.read("tick tock ; i one j two ; i ; j , i / i , i")
        turn = Task(coin, Blur.alike(["r", "s"], "x"), again(["r", "s"], ["a", "b"], ["s"], 2))
        tick = Task(clock, Blur.alike(["one", "two"], "y"), again(["one", "two"], ["tick", "tock"], ["two"], 2))
        one, other = Table(1, [(1, "x", "a", 1)]), Table(2, [(1, "y", "tick", 2), (2, "y", "tick", 1)])
        self.assertTrue(holds(turn, one) and holds(tick, other))
        first, second = beside(coin, clock)
        watch = both(turn.watch.carried(first.labels, first.deeds), tick.watch.carried(second.labels, second.deeds))
        task = Task(first.world, paired(turn.blur, tick.blur), watch)
        self.assertTrue(holds(task, Table(2, [(1, "x.y", "a.tick", 2), (2, "x.y", "a.tick", 1)])))

    def test_facts_of_closed_triples(self):
        for chance in chances(120):
            task = random_task(chance)
            table = chosen(chance, task, random_table(chance, task))
            paper = holds(task, table)
            triples = [(states[-1], page, kept) for layer in layers_by_hand(task, cells_of(table))
                       for _, states, page, kept in layer]
            if paper:
                self.assertEqual(set(paper.triples), set(triples))
                # The promise that nothing breaks is held by each table that serves; a weaker one by each that holds.
                loose = anything(task.watch.labels, task.watch.deeds)
                standing = [(state, loose.first) for state in dict(task.standing)]
                self.assertTrue(holds(task.changed(watch=loose, standing=standing), table))

    def test_pages_turned(self):
        for chance in chances(120):
            task = random_task(chance)
            table = chosen(chance, task, random_table(chance, task))
            order = [1] + chance.sample(range(2, table.pages + 1), table.pages - 1)
            paper, turned = holds(task, table), holds(task, table.turned(order))
            self.assertEqual(paper.word, turned.word)
            if paper:
                self.assertEqual(turned, Holds([(state, order[page - 1], kept) for state, page, kept in paper.triples]))
            elif paper.word == "broken":
                self.assertEqual(paper, turned)
            else:
                self.assertEqual((turned.page, turned.sight, turned.states),
                                 (order[paper.page - 1], paper.sight, paper.states))

    def test_tables_carried_to_finer_sights(self):
        for chance in chances(120):
            task = random_task(chance)
            table = chosen(chance, task, random_table(chance, task))
            fine = task.changed(blur=Blur.apart(task.blur.labels), standing=task.standing)
            sights = {label: task.blur.sight_of(label) for label in task.blur.labels}
            if not any(sight in sights.values() for _, sight, _, _ in table):
                continue
            paper, carried = holds(task, table), holds(fine, table.carried(sights))
            self.assertEqual(paper.word, carried.word)
            if paper.word != "lacks":
                self.assertEqual(paper, carried)

    def test_errors(self):
        odd = Table(1, [(1, "r", "a", 1), (1, "never", "c", 1)])
        for call in (serves, holds):
            for value in of_every_kind():
                if not isinstance(value, Task):
                    self.fails(BadTask("task"), call, value, value)
                self.fails(BadTable("table"), call, TASK, value)
            self.fails(Unlike("deeds"), call, TASK, odd)
