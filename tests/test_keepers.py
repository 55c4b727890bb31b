from common import Case, chances, names, of_every_kind, random_task
from table_hands import (cells_of, chosen, counted, ends_by_hand, form_by_hand, lacking_by_hand, list_by_hand, random_table,
                         search_by_hand, small_task, triples_by_hand)
from test_plays import FLAT, TABLE, TASK

from dimkeeper.blurs import Blur
from dimkeeper.check_kept import shows_kept
from dimkeeper.closed import holds
from dimkeeper.errors import BadNumbers, BadTable, BadTask, NoTable, NotKept, TooMany, Unlike
from dimkeeper.forms import one_form
from dimkeeper.keepers import Kept, count_kept, first_kept, kept_at, kept_tables, number_of
from dimkeeper.papers import Denial, Paper
from dimkeeper.promises import again, anything, both, done_in_turn, never
from dimkeeper.tables import Table
from dimkeeper.tasks import Task, choices
from dimkeeper.watches import Watch
from dimkeeper.worlds import World

BY_TURNS = Task(World(["a", "b"], [("o", "r", (["o"], ["o"]))], ["o"]), Blur({"r": "r"}),
                Watch(["r"], ["a", "b"], [("w0", (("w1", "broken"),)), ("w1", (("broken", "w0"),))]))
SIDES = World(["left", "right"], [("le", "l", (["le"], ["x"])), ("ri", "r", (["x"], ["ri"])), ("x", "x", (["x"], ["x"]))],
              ["le", "ri"])
NO_X = Watch(["l", "r", "x"], ["left", "right"], [("w0", (("w0", "w0"), ("w0", "w0"), ("broken", "broken")))])
APART = Task(SIDES, Blur({"l": "l", "r": "r", "x": "x"}), NO_X)
OTHER = Table(3, [(2, "x", "right", 1), (3, "l", "left", 1), (1, "r", "right", 1), (1, "l", "left", 3)])


def list_of(task, k):
    return [form_by_hand(task, cells_of(table)) for table in kept_tables(task, k)]


def free_task(deeds, sights):
    """One state for each sight, a promise that is never broken."""
    labels = names("l", sights)
    states = names("s", sights)
    world = World(deeds, [(state, label, [states] * len(deeds)) for state, label in zip(states, labels)], states)
    return Task(world, Blur.apart(labels), anything(labels, deeds))


class Keepers(Case):

    def test_example(self):
        self.assertEqual([first_kept(BY_TURNS, 1), first_kept(BY_TURNS, 2).entries, count_kept(BY_TURNS, 2),
                          kept_at(BY_TURNS, 3, 1).entries],
                         [None, ((1, "r", "a", 2), (2, "r", "b", 1)), 1,
                          ((1, "r", "a", 2), (2, "r", "b", 3), (3, "r", "a", 2))])
        self.assertEqual([count_kept(APART, 1), count_kept(APART, 2), kept_at(APART, 2, 0).entries,
                          number_of(APART, 2, OTHER)],
                         [1, 9, ((1, "l", "left", 1), (1, "r", "right", 1)), 3])
        begun = [table.entries[:2] for table in kept_tables(APART, 2)]
        self.assertEqual(begun[1], ((1, "l", "left", 1), (1, "r", "right", 2)))
        self.assertEqual(begun[2], begun[1])
        self.assertEqual(begun[3], ((1, "l", "left", 2), (1, "r", "right", 1)))
        self.assertEqual(begun[4], begun[3])
        self.assertEqual(set(begun[5:]), {((1, "l", "left", 2), (1, "r", "right", 2))})

    def test_paper(self):
        paper = Kept(1, [[1, "r", "a", 1]], [["o", 1, "w"]])
        self.assertEqual((paper.word, paper.parts, bool(paper), isinstance(paper, Denial), isinstance(paper, Paper)),
                         ("kept", (1, ((1, "r", "a", 1),), (("o", 1, "w"),)), True, False, True))
        self.assertEqual((paper.pages, paper.entries, paper.triples), paper.parts)
        self.assertEqual(Kept(triples=(("o", 1, "w"),), entries=((1, "r", "a", 1),), pages=1), paper)
        self.same([paper, Kept(2, [[1, "r", "a", 1]], [["o", 1, "w"]]), Kept(1, [], []), Paper("kept", *paper.parts)])

    def test_one_state_and_one_deed(self):
        task = free_task(["d"], 1)
        for k in range(1, 8):
            self.assertEqual(count_kept(task, k), k * (k + 1) // 2)

    def test_lists_by_hand(self):
        seen = {}
        for chance in chances(160):
            k = chance.choice([1, 1, 2, 2, 2, 3])
            task = small_task(chance, k, 1300, most_states=4, most_deeds=2, most_labels=3 if k == 1 else 2)
            tables = list_by_hand(task, k)
            self.assertEqual(list_of(task, k), tables)
            self.assertEqual(list(kept_tables(task, k)), [Table(max([1] + [row[3] for row in form]), form) for form in tables])
            self.gives(len(tables), count_kept, task, k)
            for number, form in enumerate(tables[:20]):
                table = kept_at(task, k, number)
                self.assertEqual(form_by_hand(task, cells_of(table)), form)
                self.assertEqual(number_of(task, k, table), number)
                self.assertEqual(one_form(task, table), table)
            self.fails(NoTable(len(tables)), kept_at, task, k, len(tables))
            self.fails(NoTable(10 ** 30), kept_at, task, k, 10 ** 30)
            paper = first_kept(task, k)
            if tables:
                cells = {row[:2]: row[2:] for row in tables[0]}
                self.assertEqual(paper, Kept(max([1] + [row[3] for row in tables[0]]), tables[0], triples_by_hand(task, cells)))
                self.assertTrue(shows_kept(task, paper))
            else:
                self.assertIsNone(paper)
            seen[k, len(tables) > 0, len(task.sights)] = True
        self.assertTrue({(k, found, 1) for k in (1, 2, 3) for found in (True, False)} <= set(seen), seen)
        self.assertTrue({(k, found, 2) for k in (1, 2) for found in (True, False)} <= set(seen), seen)

    def test_longer_lists_by_their_own_words(self):
        # Where too many tables would have to be tried, the whole search is held against its words.
        for chance in chances(60):
            k = chance.choice([2, 3])
            task = random_task(chance)
            if choices(task, k) > 3000:
                continue
            forms = list_of(task, k)
            self.assertEqual(len(forms), counted(search_by_hand(task, k))[2])
            self.assertEqual(len(set(forms)), len(forms))
            deeds = list(task.world.deeds)
            keys = [[(deeds.index(deed), after) for _, _, deed, after in form] for form in forms]
            self.assertEqual(keys, sorted(keys))

    def test_lists_of_more_pages(self):
        for chance in chances(60):
            task = small_task(chance, 2, 20000, most_states=3, most_deeds=2, most_labels=2)
            for k in (1, 2):
                if choices(task, k + 1) > 20000:
                    continue
                more = list(kept_tables(task, k + 1))
                self.assertEqual([table for table in more if table.pages <= k], list(kept_tables(task, k)))

    def test_lists_of_both_promises(self):
        for chance in chances(60):
            task = small_task(chance, 2, 3000, most_states=3, most_deeds=2, most_labels=2)
            labels, deeds = task.watch.labels, task.watch.deeds
            one, other = never(labels, deeds, labels[:1]), again(labels, deeds, labels[-1:], 2)
            lists = [list(kept_tables(task.changed(watch=watch), 2)) for watch in (one, other, both(one, other))]
            self.assertEqual([table for table in lists[0] if table in lists[1]], lists[2])

    def test_other_orders_of_deeds(self):
        # The order of the deeds is that of the world, not that of the watch.
        world = World(["b", "a"], [("o", "r", (["o"], ["o"]))], ["o"])
        task = Task(world, Blur({"r": "r"}), anything(["r"], ["a", "b"]))
        self.assertEqual([table.entries for table in kept_tables(task, 1)], [((1, "r", "b", 1),), ((1, "r", "a", 1),)])
        turns = task.changed(watch=done_in_turn(["r"], ["a", "b"], ["a", "b"]))
        self.assertEqual([str(table) for table in kept_tables(turns, 2)], ["2 : 1 r a 2 / 2 r b 1"])

    def test_several_stands_of_one_state(self):
        watch = Watch(["r"], ["a", "b"], [("x", (("x", "y"),)), ("y", (("broken", "x"),))])
        task = BY_TURNS.changed(watch=watch, standing=[("o", "y"), ("o", "x")])
        self.assertEqual([str(table) for table in kept_tables(task, 2)], ["1 : 1 r b 1", "2 : 1 r b 2 / 2 r b 1", "2 : 1 r b 2 / 2 r b 2"])
        self.assertEqual(first_kept(task, 2).triples, (("o", 1, "x"), ("o", 1, "y")))

    def test_number_of_any_table(self):
        seen = {}
        for chance in chances(200):
            task = small_task(chance, 2, 3000, most_states=3, most_deeds=2, most_labels=2)
            table = chosen(chance, task, random_table(chance, task, 3, 0.03))
            cells = cells_of(table)
            if lacking_by_hand(task, cells) is not None:
                self.fails(NotKept("serves"), number_of, task, 2, table)
                key = "serves"
            elif ends_by_hand(task, cells)[0] is not None:
                self.fails(NotKept("holds"), number_of, task, 2, table)
                key = "holds"
            elif max(row[3] for row in form_by_hand(task, cells)) > 2:
                self.fails(NotKept("pages"), number_of, task, 2, table)
                key = "pages"
            else:
                self.gives(list_of(task, 2).index(form_by_hand(task, cells)), number_of, task, 2, table)
                key = "number"
            seen[key] = seen.get(key, 0) + 1
        self.assertEqual(len(seen), 4, seen)

    def test_choices(self):
        few = free_task(["a", "b"], 5)
        self.assertEqual(count_kept(few, 1), 32)
        self.assertEqual(kept_at(few, 1, 31).entries[4], (1, "l4", "b", 1))
        many = free_task(["a", "b", "c"], 11)
        for call in (count_kept, first_kept, lambda *rest: list(kept_tables(*rest)), lambda *rest: kept_at(*rest, 0)):
            self.fails(TooMany("choices", 100000), call, many, 1)
            self.fails(TooMany("choices", 100000), call, BY_TURNS, 200)
            self.fails(BadNumbers("k"), call, many, 201)
            self.fails(BadNumbers("k"), call, many, 0)
        # Just 100,000 are let.
        edge = free_task(names("d", 10), 5)
        self.assertEqual(choices(edge, 1), 100000)
        self.assertIsNotNone(first_kept(edge, 1))
        self.assertEqual(kept_at(edge, 1, 9).entries[-1], (1, "l4", "d9", 1))
        self.fails(TooMany("choices", 100000), first_kept, free_task(names("d", 11), 5), 1)
        # One deed and one page is one choice, of however many sights.
        self.assertEqual(first_kept(free_task(["d"], 200), 1).pages, 1)
        self.assertEqual(count_kept(free_task(["d"], 200), 1), 1)

    def test_errors(self):
        odd = Table(1, [(1, "r", "a", 1), (1, "never", "c", 1)])
        gone = Table(2, [(1, "r", "a", 2)])
        for value in of_every_kind():
            for call in (count_kept, first_kept, lambda *rest: list(kept_tables(*rest)), lambda *rest: kept_at(*rest, None),
                         lambda *rest: number_of(*rest, None)):
                if not isinstance(value, Task):
                    self.fails(BadTask("task"), call, value, value)
                if not (type(value) is int and 1 <= value <= 200):
                    self.fails(BadNumbers("k"), call, BY_TURNS, value)
            if not (type(value) is int and value >= 0):
                self.fails(BadNumbers("number"), kept_at, BY_TURNS, 200, value)
            self.fails(BadTable("table"), number_of, BY_TURNS, 200, value)
        self.fails(BadNumbers("number"), kept_at, BY_TURNS, 2, -1)
        self.fails(Unlike("deeds"), number_of, TASK, 200, odd)
        self.fails(NotKept("serves"), number_of, TASK, 200, gone)
        self.fails(NotKept("holds"), number_of, TASK, 200, FLAT)
        self.fails(NotKept("pages"), number_of, TASK, 1, TABLE)
        self.fails(TooMany("choices", 100000), number_of, TASK, 200, TABLE)
        self.fails(TooMany("choices", 100000), kept_at, TASK, 200, 10 ** 9)
        self.fails(NotKept("serves"), number_of, APART, 1, Table(1, [(1, "l", "left", 1)]))
        self.assertTrue(holds(TASK, TABLE))
