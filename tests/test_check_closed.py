from bending import bent
from common import Case, chances, of_every_kind, other_class, random_task
from table_hands import cells_of, chosen, entry_of, random_table
from test_handing import LATE, random_handings, taken_by_hand
from test_plays import FLAT, TABLE, TASK

from dimkeeper.check_closed import shows_handed, shows_holds, shows_serves
from dimkeeper.closed import Broken, Holds, Lacks, Serves, holds, serves
from dimkeeper.errors import BadTable, BadTask, Unlike
from dimkeeper.handing import Dropped, Handed, handed
from dimkeeper.papers import Denial, Paper
from dimkeeper.tables import Table
from dimkeeper.tasks import Task


def whole(value):
    return type(value) is int


def rows_of_kind(rows, many):
    return (isinstance(rows, tuple) and all(isinstance(row, tuple) and len(row) == many for row in rows)
            and len({repr(row) for row in rows}) == len(rows))


def are_states(task, states):
    return isinstance(states, tuple) and states != () and all(state in task.world for state in states)


def spots_are_right(task, table, spots):
    cells = cells_of(table)
    if not rows_of_kind(spots, 2) or not all(state in task.world and whole(page) for state, page in spots):
        return False
    for state, page in spots:
        entry = entry_of(task, cells, state, page)
        if entry is None or not all((one, entry[1]) in spots for one in task.world.nexts(state, entry[0])):
            return False
    return all((state, 1) in spots for state, _ in task.standing)


def lacks_is_right(task, table, page, sight, states):
    cells = cells_of(table)
    if not are_states(task, states) or states[0] not in dict(task.standing) or not whole(page):
        return False
    at = 1
    for state, after in zip(states, states[1:]):
        entry = entry_of(task, cells, state, at)
        if entry is None or after not in task.world.nexts(state, entry[0]):
            return False
        at = entry[1]
    return entry_of(task, cells, states[-1], at) is None and (page, sight) == (at, task.sight_of(states[-1]))


def triples_are_right(task, table, triples):
    cells = cells_of(table)
    if not rows_of_kind(triples, 3):
        return False
    if not all(state in task.world and whole(page) and kept in task.watch for state, page, kept in triples):
        return False
    for state, page, kept in triples:
        entry = entry_of(task, cells, state, page)
        if entry is None:
            return False
        place = task.place_of((state, kept), entry[0])
        if place == "broken" or not all((one, entry[1], place) in triples for one in task.world.nexts(state, entry[0])):
            return False
    return all((state, 1, kept) in triples for state, kept in task.standing)


def broken_is_right(task, table, first, states):
    cells = cells_of(table)
    if not are_states(task, states) or (states[0], first) not in task.standing:
        return False
    page, kept = 1, first
    for at, state in enumerate(states):
        entry = entry_of(task, cells, state, page)
        if entry is None:
            return False
        kept, page = task.place_of((state, kept), entry[0]), entry[1]
        if at < len(states) - 1 and (kept == "broken" or states[at + 1] not in task.world.nexts(state, entry[0])):
            return False
    return kept == "broken"


def handed_is_right(task, tables, handings, rows):
    if not rows_of_kind(rows, 4):
        return False
    for index, state, page, kept in rows:
        if not whole(index) or not 0 <= index < len(tables) or state not in task.world or not whole(page):
            return False
        entry = entry_of(task, cells_of(tables[index]), state, page)
        if kept not in task.watch or entry is None:
            return False
        place = task.place_of((state, kept), entry[0])
        if place == "broken":
            return False
        if not all((index, one, entry[1], place) in rows for one in task.world.nexts(state, entry[0])):
            return False
        if not all((j, state, q, kept) in rows for i, p, j, q in handings if (i, p) == (index, page)):
            return False
    return all((0, state, 1, kept) in rows for state, kept in task.standing)


def dropped_is_right(task, tables, handings, first, states, places):
    if not are_states(task, states) or (states[0], first) not in task.standing or not isinstance(places, tuple):
        return False
    if len(places) != len(states):
        return False
    open_pair, kept = (0, 1), first
    for at, (state, pair) in enumerate(zip(states, places)):
        if not isinstance(pair, tuple) or not all(map(whole, pair)) or pair not in taken_by_hand(handings, open_pair):
            return False
        entry = entry_of(task, cells_of(tables[pair[0]]), state, pair[1])
        if entry is not None:
            kept, open_pair = task.place_of((state, kept), entry[0]), (pair[0], entry[1])
        if entry is None or kept == "broken":
            return at == len(states) - 1
        if at < len(states) - 1 and states[at + 1] not in task.world.nexts(state, entry[0]):
            return False
    return False


class CheckClosed(Case):

    def right(self, task, table, paper):
        """Whether a paper about a table is right: by serves, by holds."""
        if paper.word == "serves":
            return spots_are_right(task, table, *paper.parts), False
        if paper.word == "holds":
            return False, triples_are_right(task, table, *paper.parts)
        if paper.word == "lacks":
            told = lacks_is_right(task, table, *paper.parts)
            return told, told
        return False, broken_is_right(task, table, *paper.parts)

    def remade(self, paper, parts):
        return {"serves": Serves, "holds": Holds, "lacks": Lacks, "broken": Broken, "handed": Handed,
                "dropped": Dropped}[paper.word](*parts)

    def test_what_is_told_is_shown(self):
        seen = {}
        for chance in chances(200):
            task = random_task(chance)
            table = chosen(chance, task, random_table(chance, task))
            one, other = serves(task, table), holds(task, table)
            self.assertIs(shows_serves(task, table, one), True)
            self.assertIs(shows_holds(task, table, other), True)
            self.assertIs(shows_holds(task, table, one), one.word == "lacks")
            seen[one.word] = seen[other.word] = True
        self.assertEqual(len(seen), 4)

    def test_bent_papers(self):
        seen = {}
        for chance in chances(300):
            task = random_task(chance, most_states=4)
            table = chosen(chance, task, random_table(chance, task, 2))
            others = [*task.world.states, *task.watch.states, *task.blur.sights, "broken", 0, 1, 2, True, None, ()]
            for paper in (serves(task, table), holds(task, table)):
                others += list(paper.parts[0]) if isinstance(paper.parts[0], tuple) else []
                for _ in range(12):
                    try:
                        parts = bent(chance, paper.parts, others)
                    except IndexError:
                        continue
                    if len(parts) != len(paper.parts):
                        continue
                    told = self.remade(paper, parts)
                    by_serves, by_holds = self.right(task, table, told)
                    self.assertIs(shows_serves(task, table, told), by_serves, (told.word, parts))
                    self.assertIs(shows_holds(task, table, told), by_holds, (told.word, parts))
                    key = paper.word, by_serves or by_holds
                    seen[key] = seen.get(key, 0) + 1
        self.assertEqual(len(seen), 8, seen)

    def test_bent_handings(self):
        seen = {}
        for chance in chances(300):
            task = random_task(chance, most_states=3)
            tables = [chosen(chance, task, random_table(chance, task, 2, 0.05)) for _ in range(2)]
            handings = random_handings(chance, tables)
            paper = handed(task, tables, handings)
            others = [*task.world.states, *task.watch.states, "broken", 0, 1, 2, True, None, (), (0, 1), (1, 1), (1, 2)]
            others += list(paper.parts[0]) if isinstance(paper.parts[0], tuple) else []
            for _ in range(12):
                parts = bent(chance, paper.parts, others)
                if len(parts) != len(paper.parts):
                    continue
                told = (handed_is_right if paper else dropped_is_right)(task, tables, handings, *parts)
                self.assertIs(shows_handed(task, tables, handings, self.remade(paper, parts)), told, parts)
                seen[paper.word, told] = seen.get((paper.word, told), 0) + 1
        self.assertEqual(len(seen), 4, seen)

    def test_more_than_comes_about(self):
        table = Table(3, [*TABLE.entries, (3, "r", "a", 2)])
        spots = [("o", 1), ("o", 2)]
        self.assertTrue(shows_serves(TASK, table, Serves(spots + [("o", 3)])))
        self.assertTrue(shows_serves(TASK, table, Serves(spots[::-1])))
        self.assertFalse(shows_serves(TASK, table, Serves(spots + spots[:1])))
        self.assertFalse(shows_serves(TASK, TABLE, Serves(spots + [("o", 3)])))
        self.assertFalse(shows_serves(TASK, table, Serves(spots[1:])))
        self.assertFalse(shows_serves(TASK, table, Serves([("o", True), ("o", 2)])))
        triples = [("o", 1, "x"), ("o", 2, "y")]
        self.assertTrue(shows_holds(TASK, table, Holds([("o", 3, "x")] + triples)))
        self.assertFalse(shows_holds(TASK, table, Holds([("o", 3, "y")] + triples)))
        self.assertFalse(shows_holds(TASK, table, Holds(triples * 2)))
        self.assertFalse(shows_holds(TASK, table, Holds(triples[:1])))
        self.assertFalse(shows_holds(TASK, FLAT, Holds([("o", 1, "x"), ("o", 1, "y")])))

    def test_longer_plays(self):
        # Any play that stops at the cell, or is broken at its last moment, is right, also of a table that does not serve.
        table = Table(2, [(1, "r", "a", 2)])
        self.assertTrue(shows_holds(TASK, table, Lacks(2, "r", ["o", "o"])))
        self.assertFalse(shows_holds(TASK, table, Lacks(1, "r", ["o"])))
        self.assertFalse(shows_holds(TASK, table, Lacks(True + 1, "r", ["o"])))
        task = TASK.changed(watch=TASK.watch, standing=[("o", "x"), ("o", "y")])
        self.assertTrue(shows_holds(task, table, Broken("y", ["o"])))
        self.assertFalse(shows_serves(task, table, Broken("y", ["o"])))
        self.assertTrue(shows_holds(task, FLAT, Broken("x", ["o", "o"])))
        self.assertFalse(shows_holds(task, FLAT, Broken("x", ["o"])))
        self.assertFalse(shows_holds(task, FLAT, Broken("x", ["o", "o", "o"])))
        self.assertFalse(shows_holds(TASK, FLAT, Broken("y", ["o"])))
        self.assertFalse(shows_holds(TASK, table, Broken("x", ["o", "o"])))
        self.assertFalse(shows_holds(TASK, table, Broken("x", ["o", "q"])))
        self.assertFalse(shows_holds(TASK, table, Lacks(2, "r", ["o", "q"])))

    def test_longer_plays_with_handings(self):
        third = Table(1, [(1, "r", "a", 1)])
        tables, handings = [TABLE, LATE, third], [(0, 2, 1, 1), (1, 1, 2, 1)]
        for states, places, right in [
                ("oo", ((0, 1), (2, 1)), True), ("oq", ((0, 1), (2, 1)), False), ("ooo", ((0, 1), (2, 1), (2, 1)), False),
                ("oo", ((0, 1), (0, 2)), False), ("o", ((0, 1),), False), ("oooo", ((0, 1), (0, 2), (0, 1), (2, 1)), True),
                ("ooo", ((0, 1), (1, 1), (1, 2)), False), ("oooo", ((0, 1), (1, 1), (1, 2), (2, 1)), True),
                ("oooo", ((0, 1), (1, 1), (1, 2), (1, 1)), False),
                ("oo", ((0, 1), (2, True)), False), ("oo", ((0, 1), (2, 1.0)), False), ("oo", ((0, 1), (2, 1, 1)), False),
                ("oo", ((0, 1), (3, 1)), False), ("oo", ((2, 1), (2, 1)), False), ("oo", ((0, 1),), False), ("", (), False),
                ("qo", ((0, 1), (2, 1)), False)]:
            self.assertIs(shows_handed(TASK, tables, handings, Dropped("x", list(states), places)), right, (states, places))
        self.assertIs(shows_handed(TASK, tables, handings, Dropped("y", ["o", "o"], ((0, 1), (2, 1)))), False)
        # A cell that lacks its entry stops a play; nothing comes behind it.
        gone = [Table(2, [(1, "r", "a", 2)])]
        self.assertIs(shows_handed(TASK, gone, [], Dropped("x", ["o", "o"], [(0, 1), (0, 2)])), True)
        self.assertIs(shows_handed(TASK, gone, [], Dropped("x", ["o", "o", "o"], [(0, 1), (0, 2), (0, 1)])), False)

    def test_any_values(self):
        class Lower(Serves):
            pass

        class LowerStill(Broken):
            pass

        class LowerHolds(Holds):
            pass

        class LowerLacks(Lacks):
            pass

        class LowerHanded(Handed):
            pass

        class LowerDropped(Dropped):
            pass
        rows, drop = handed(TASK, [TABLE], []).closed, handed(TASK, [FLAT], []).parts
        for value in (LowerHanded(rows), other_class("Handed", closed=rows), Paper("handed", rows)):
            self.assertIs(shows_handed(TASK, [TABLE], [], value), False)
        for value in (LowerDropped(*drop), Denial("dropped", *drop),
                      other_class("Dropped", first=drop[0], states=drop[1], places=drop[2])):
            self.assertIs(shows_handed(TASK, [FLAT], [], value), False)
        self.assertIs(shows_handed(TASK, [TABLE], [], Handed(rows)) and shows_handed(TASK, [FLAT], [], Dropped(*drop)), True)
        gone = Table(2, [(1, "r", "a", 2)])
        for value in (LowerLacks(2, "r", ["o", "o"]), Denial("lacks", 2, "r", ["o", "o"]),
                      other_class("Lacks", page=2, sight="r", states=("o", "o"))):
            self.assertIs(shows_holds(TASK, gone, value), False)
            self.assertIs(shows_serves(TASK, gone, value), False)
        self.assertIs(shows_holds(TASK, FLAT, other_class("Broken", first="x", states=("o", "o"))), False)
        self.assertIs(shows_holds(TASK, TABLE, LowerHolds(holds(TASK, TABLE).triples)), False)
        triples = (("o", 1, "x"), ("o", 2, "y"))
        for value in of_every_kind() + [Lower([("o", 1), ("o", 2)]), Paper("serves", [("o", 1), ("o", 2)]), triples,
                                        Paper("holds", triples), other_class("Holds", triples=triples),
                                        other_class("Serves", spots=(("o", 1), ("o", 2)))]:
            self.assertIs(shows_serves(TASK, TABLE, value), False)
            self.assertIs(shows_holds(TASK, TABLE, value), False)
            self.assertIs(shows_handed(TASK, [TABLE, LATE], [(0, 2, 1, 1)], value), False)
            if value != triples and (not isinstance(value, dict) or None not in value):
                for paper in (Serves(value), Serves([value]), Serves([("o", 1), ("o", 2), ("o", value)]), Holds(value),
                              Holds([value]), Holds(triples + (("o", value, "x"),)), Lacks(value, value, value),
                              Lacks(1, "r", [value]), Broken(value, value), Broken("x", [value]), Broken(value, ["o"])):
                    self.assertIs(shows_serves(TASK, TABLE, paper), False)
                    self.assertIs(shows_holds(TASK, TABLE, paper), False)
                for paper in (Handed(value), Handed([value]), Handed([(value, "o", 1, "x")]), Dropped(value, value, value),
                              Dropped("x", ["o"], value), Dropped("x", ["o"], [value]), Dropped("x", [value], [(1, 1)]),
                              Dropped("x", ["o"], [(value, 1)]), Dropped("x", ["o"], [(1, value)])):
                    self.assertIs(shows_handed(TASK, [TABLE, LATE], [(0, 2, 1, 1)], paper), False)
        self.assertIs(shows_holds(TASK, FLAT, LowerStill("x", ["o", "o"])), False)
        self.assertIs(shows_holds(TASK, FLAT, Denial("broken", "x", ["o", "o"])), False)

    def test_handed_of_many_tables(self):
        # No TooMany is raised here, whatever the numbers.
        tables = [TABLE] * 21
        rows = [(0, "o", 1, "x"), (0, "o", 2, "y")]
        self.assertIs(shows_handed(TASK, tables, [], Handed(rows)), True)
        self.assertIs(shows_handed(TASK, tables, [(0, 1, 20, 1)] * 201, Handed(rows)), False)
        self.assertIs(shows_handed(TASK, tables, [(0, 1, 20, 1)] * 201,
                                   Handed(rows + [(20, "o", 1, "x"), (20, "o", 2, "y")])), True)

    def test_errors(self):
        odd = Table(1, [(1, "r", "a", 1), (1, "never", "c", 1)])
        for value in of_every_kind():
            for call in (shows_serves, shows_holds):
                if not isinstance(value, Task):
                    self.fails(BadTask("task"), call, value, value, value)
                self.fails(BadTable("table"), call, TASK, value, value)
                self.fails(Unlike("deeds"), call, TASK, odd, value)
            if not isinstance(value, Task):
                self.fails(BadTask("task"), shows_handed, value, value, value, value)
            self.fails(BadTable("tables"), shows_handed, TASK, value, value, value)
            if value not in ([], ()):
                self.fails(BadTable("handings"), shows_handed, TASK, [odd], value, value)
            self.fails(Unlike("deeds"), shows_handed, TASK, [TABLE, odd], [], value)
