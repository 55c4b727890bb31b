from common import Case, chances, of_every_kind, random_task
from table_hands import chosen, random_table
from test_plays import FLAT, TABLE, TASK

from dimkeeper.check_closed import shows_handed
from dimkeeper.closed import holds
from dimkeeper.errors import BadTable, BadTask, TooMany, Unlike
from dimkeeper.forms import meanings
from dimkeeper.handing import Dropped, Handed, handed
from dimkeeper.papers import Denial, Paper
from dimkeeper.tables import Table
from dimkeeper.tasks import Task

LATE = Table(2, [(1, "r", "b", 2), (2, "r", "a", 1)])


def taken_by_hand(handings, pair):
    """All pairs (index, page) that may be open where this one is."""
    pairs = {pair}
    while True:
        more = {(j, q) for i, p, j, q in handings if (i, p) in pairs} | pairs
        if more == pairs:
            return sorted(pairs)
        pairs = more


def layers_with_handings(task, tables, handings, most):
    """For each moment all plays up to it: (first, states, pairs asked), none of which stopped or broke ahead."""
    def watch_at(first, states, asked):
        kept = first
        for state, (index, page) in zip(states, asked):
            kept = task.place_of((state, kept), tables[index].entry_of(page, task.sight_of(state))[0])
        return kept
    layer = [(kept, (state,), ((0, 1),)) for state, kept in task.standing]
    layer = [(first, states, (pair,)) for first, states, (one,) in layer for pair in taken_by_hand(handings, one)]
    for _ in range(most):
        yield layer
        behind = []
        for first, states, asked in layer:
            index, page = asked[-1]
            cell = (page, task.sight_of(states[-1]))
            if cell not in tables[index]:
                continue
            deed, after = tables[index].entry_of(*cell)
            if task.place_of((states[-1], watch_at(first, states, asked[:-1])), deed) == "broken":
                continue
            for state in task.world.nexts(states[-1], deed):
                for pair in taken_by_hand(handings, (index, after)):
                    behind.append((first, states + (state,), asked + (pair,)))
        layer = behind


def dropped_of(task, tables, first, states, asked):
    """Whether the last moment of a play with handings is one at which it stops or breaks."""
    kept = first
    for state, (index, page) in zip(states, asked):
        cell = (page, task.sight_of(state))
        if cell not in tables[index]:
            return True
        kept = task.place_of((state, kept), tables[index].entry_of(*cell)[0])
    return kept == "broken"


def closed_by_hand(task, tables, handings):
    """All that come about with handings, in order, or None if a play stops or breaks."""
    rows = {(index, state, page, kept) for state, kept in task.standing for index, page in taken_by_hand(handings, (0, 1))}
    while True:
        more = set(rows)
        for index, state, page, kept in rows:
            cell = (page, task.sight_of(state))
            if cell not in tables[index]:
                return None
            deed, after = tables[index].entry_of(*cell)
            place = task.place_of((state, kept), deed)
            if place == "broken":
                return None
            more |= {(j, one, q, place) for one in task.world.nexts(state, deed)
                     for j, q in taken_by_hand(handings, (index, after))}
        if more == rows:
            states, places = list(task.world.states), list(task.watch.states)
            return sorted(rows, key=lambda row: (row[0], row[2], states.index(row[1]), places.index(row[3])))
        rows = more


def random_handings(chance, tables):
    places = [(index, page) for index, table in enumerate(tables) for page in range(1, table.pages + 1)]
    return [chance.choice(places) + chance.choice(places) for _ in range(chance.randint(0, 3))]


class Hands(Case):

    def test_example(self):
        self.assertEqual([len(handed(TASK, [TABLE, LATE], [(0, 2, 1, 1)]).closed),
                          handed(TASK, [TABLE, LATE], [(0, 1, 1, 1)]) == Dropped("x", ["o"], [(1, 1)])], [4, True])
        self.gives(Handed([(0, "o", 1, "x"), (0, "o", 2, "y"), (1, "o", 1, "y"), (1, "o", 2, "x")]),
                   handed, TASK, (TABLE, LATE), ((0, 2, 1, 1),))

    def test_papers(self):
        papers = [Handed([[0, "s", 1, "w"]]), Dropped("w", ["s"], [[0, 1]])]
        self.assertEqual([(paper.word, paper.parts, bool(paper), isinstance(paper, Denial)) for paper in papers],
                         [("handed", (((0, "s", 1, "w"),),), True, False), ("dropped", ("w", ("s",), ((0, 1),)), False, True)])
        self.assertEqual(papers[0].closed, ((0, "s", 1, "w"),))
        self.assertEqual((papers[1].first, papers[1].states, papers[1].places), ("w", ("s",), ((0, 1),)))
        self.assertEqual(Dropped(places=[(0, 1)], states=["s"], first="w"), papers[1])
        self.assertEqual(Handed(closed=[(0, "s", 1, "w")]), papers[0])
        self.same(papers + [Handed([]), Dropped("w", ["s"], [])])
        self.assertTrue(isinstance(papers[0], Paper))

    def test_by_hand(self):
        seen = {}
        for chance in chances(300):
            task = random_task(chance, most_states=3)
            tables = [random_table(chance, task, 2, 0.02) for _ in range(chance.randint(1, 3))]
            tables = [chosen(chance, task, table) if chance.random() < 0.8 else table for table in tables]
            handings = random_handings(chance, tables)
            told = closed_by_hand(task, tables, handings)
            paper = handed(task, tables, handings)
            self.assertEqual(paper, handed(task, tuple(tables), [list(row) for row in handings]))
            self.assertIs(shows_handed(task, tables, handings, paper), True)
            if told is not None:
                self.assertEqual(paper, Handed(told))
                key = len(handings) > 0, "handed"
            else:
                self.assertIsInstance(paper, Dropped)
                for layer in layers_with_handings(task, tables, handings, 6):
                    drops = [play for play in layer if dropped_of(task, tables, *play)]
                    if drops:
                        self.assertIn(paper.parts, drops)
                        break
                key = len(handings) > 0, min(3, len(paper.states))
            seen[key] = seen.get(key, 0) + 1
        self.assertTrue({(False, "handed"), (True, "handed"), (True, 1), (True, 2), (True, 3), (False, 2)} <= set(seen), seen)

    def test_one_table_alone(self):
        for chance in chances(80):
            task = random_task(chance)
            table = chosen(chance, task, random_table(chance, task))
            self.assertIs(bool(handed(task, [table], [])), bool(holds(task, table)))

    def test_several_handings_at_one_moment(self):
        # Table 1 lets go at once to table 2, so what it lacks itself is asked, too.
        third = Table(1, [(1, "r", "a", 1)])
        self.gives(Dropped("x", ["o", "o"], [(0, 1), (2, 1)]), handed, TASK, [TABLE, LATE, third], [(0, 2, 1, 1), (1, 1, 2, 1)])
        self.assertEqual(len(handed(TASK, [TABLE, LATE, TABLE], [(0, 2, 1, 1), (1, 1, 2, 2), (2, 1, 0, 1)]).closed), 6)
        self.gives(Dropped("x", ["o"], [(2, 1)]), handed, TASK, [TABLE, FLAT, LATE], [(0, 1, 1, 1), (1, 1, 2, 1)])

    def test_meanings_let_tables_be_handed_over(self):
        handings_made = 0
        for chance in chances(150):
            task = random_task(chance, most_states=4)
            tables = [chosen(chance, task, random_table(chance, task, 2, 0.02)) for _ in range(3)]
            tables = [table for table in tables if holds(task, table)]
            if not tables:
                continue
            # Each other table holds in a task of its own: the standing of what it holds from anywhere.
            whole = [(state, kept) for state, kept in task.stands()]
            told = [meanings(task, table) for table in tables]
            wide = []
            for table in tables[1:]:
                standing = whole if holds(task.changed(standing=whole), table) else task.standing
                wide.append(meanings(task.changed(standing=standing), table))
            told = [told[0]] + wide
            handings = [(i, p, j, q) for i, one in enumerate(told) for p, view in one for j, other in enumerate(told)
                        for q, wider in other if set(view) <= set(wider)]
            if len(handings) <= 200:
                self.assertTrue(handed(task, tables, handings))
                handings_made += len([row for row in handings if row[0] != row[2]])
        self.assertGreater(handings_made, 100)

    def test_sizes(self):
        self.assertTrue(handed(TASK, [TABLE] * 20, [(0, 1, 19, 1)] * 200))
        self.fails(TooMany("tables", 20), handed, TASK, [TABLE] * 21, [(0, 1, 20, 1)] * 201)
        self.fails(TooMany("handings", 200), handed, TASK, [TABLE] * 20, [(0, 1, 19, 1)] * 201)

    def test_errors(self):
        odd = Table(1, [(1, "r", "a", 1), (1, "never", "c", 1)])
        for value in of_every_kind():
            if not isinstance(value, Task):
                self.fails(BadTask("task"), handed, value, value, value)
            self.fails(BadTable("tables"), handed, TASK, value, value)
            self.fails(BadTable("tables"), handed, TASK, [TABLE, value], value)
            if value not in ([], ()):
                self.fails(BadTable("handings"), handed, TASK, [odd], value)
            self.fails(BadTable("handings"), handed, TASK, [odd], [value])
            for at in range(4):
                row = [0, 1, 0, 1]
                row[at] = value
                if not (type(value) is int and value == (0, 1)[at % 2]):
                    self.fails(BadTable("handings"), handed, TASK, [odd], [(0, 1, 0, 1), row])
        for row in ((0, 1, 0), (0, 1, 0, 1, 0), (2, 1, 0, 1), (0, 1, 2, 1), (-1, 1, 0, 1), (0, 3, 1, 1), (1, 2, 0, 1),
                    (0, 0, 0, 1), (0, 1, 1, 2)):
            self.fails(BadTable("handings"), handed, TASK, [TABLE, FLAT], [row])
        self.fails(BadTable("tables"), handed, TASK, TABLE, [])
        self.fails(Unlike("deeds"), handed, TASK, [TABLE] * 20 + [odd], [])
        self.fails(Unlike("deeds"), handed, TASK, [odd], [])
        self.fails(BadTable("handings"), handed, TASK, [odd], [(0, 2, 0, 1)])
