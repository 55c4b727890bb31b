from common import Case, chances, of_every_kind, random_task
from table_hands import cells_of, chosen, form_by_hand, lacking_by_hand, needed_by_hand, random_table
from test_plays import FLAT, SEEN, TABLE, TASK
from test_views import in_order

from dimkeeper.closed import holds
from dimkeeper.covers import cover_by
from dimkeeper.errors import BadTable, BadTask, NotKept, Unlike
from dimkeeper.forms import meanings, needed, one_form, same_in
from dimkeeper.promises import never
from dimkeeper.tables import Table
from dimkeeper.tasks import Task


class Forms(Case):

    def test_example(self):
        wide = Table(3, [(1, "r", "a", 3), (2, "q", "b", 1), (3, "r", "b", 1)])
        self.assertEqual([needed(TASK, wide), str(one_form(TASK, wide)), same_in(TASK, wide, TABLE), meanings(TASK, TABLE)],
                         [((1, "r"), (3, "r")), "2 : 1 r a 2 / 2 r b 1", True, ((1, (("o", "x"),)), (2, (("o", "y"),)))])

    def test_by_hand(self):
        seen = {}
        for chance in chances(250):
            task = random_task(chance)
            table = random_table(chance, task, lacking=0.05)
            cells = cells_of(table)
            if lacking_by_hand(task, cells) is not None:
                for call in (needed, one_form, meanings):
                    self.fails(NotKept("serves"), call, task, table)
                continue
            self.gives(tuple(needed_by_hand(task, cells)), needed, task, table)
            entries = form_by_hand(task, cells)
            form = one_form(task, table)
            self.assertEqual(form, Table(max([1] + [after for _, _, _, after in entries]), entries))
            self.assertEqual(one_form(task, form), form)
            self.assertTrue(same_in(task, table, form))
            order = [1] + chance.sample(range(2, table.pages + 1), table.pages - 1)
            self.assertEqual(one_form(task, table.turned(order)), form)
            # The watch is not asked.
            self.assertEqual(one_form(task.changed(watch=never(task.watch.labels, task.watch.deeds, task.watch.labels),
                                                   standing=None if set(task.world.starts) == {s for s, _ in task.standing}
                                                   else [(s, "w0") for s in dict(task.standing)]), table), form)
            seen[form.pages] = seen.get(form.pages, 0) + 1
        self.assertTrue({1, 2, 3} <= set(seen), seen)

    def test_numbers_of_pages(self):
        # The cells (1, l) and (1, m) are needed first; their next pages get the numbers 2 and 3 in this order.
        table = Table(5, [(1, "l", "a", 4), (1, "m", "b", 3), (4, "l", "a", 4), (4, "m", "a", 5), (3, "m", "b", 1),
                          (5, "l", "b", 5), (5, "m", "b", 5), (2, "l", "a", 2)])
        self.assertEqual(needed(SEEN, table), ((1, "l"), (1, "m"), (4, "l"), (3, "m"), (4, "m"), (5, "l"), (5, "m")))
        self.assertEqual(str(one_form(SEEN, table)),
                         "4 : 1 l a 2 / 1 m b 3 / 2 l a 2 / 2 m a 4 / 3 m b 1 / 4 l b 4 / 4 m b 4")

    def test_what_is_the_same(self):
        seen = set()
        for chance in chances(200):
            task = random_task(chance, most_states=3, most_deeds=2)
            one, other = random_table(chance, task, 2, 0.05), random_table(chance, task, 2, 0.05)
            lacks = [lacking_by_hand(task, cells_of(table)) is not None for table in (one, other)]
            if any(lacks):
                self.fails(NotKept("serves"), same_in, task, one, other)
                continue
            told = form_by_hand(task, cells_of(one)) == form_by_hand(task, cells_of(other))
            self.gives(told, same_in, task, one, other)
            seen.add(told)
        self.assertEqual(len(seen), 2)

    def test_meanings(self):
        seen = {}
        for chance in chances(200):
            task = random_task(chance)
            table = chosen(chance, task, random_table(chance, task))
            paper = holds(task, table)
            if not paper:
                why = "serves" if lacking_by_hand(task, cells_of(table)) is not None else "holds"
                self.fails(NotKept(why), meanings, task, table)
                continue
            told = meanings(task, table)
            pages = sorted({page for _, page, _ in paper.triples})
            self.assertEqual([page for page, _ in told], pages)
            for page, meaning in told:
                self.assertEqual(meaning, in_order(task, {(state, kept) for state, one, kept in paper.triples if one == page}))
            # They are a cover, and so is what a table in one form means, page by page.
            self.assertTrue(cover_by(task, [view for _, view in told]))
            self.assertTrue(cover_by(task, [view for _, view in meanings(task, one_form(task, table))]))
            seen[len(told)] = seen.get(len(told), 0) + 1
        self.assertTrue({1, 2} <= set(seen), seen)

    def test_entries_that_nothing_needs(self):
        more = Table(4, [*TABLE.entries, (3, "r", "b", 4), (1, "s", "b", 4), (4, "r", "a", 1)])
        self.assertTrue(same_in(TASK, TABLE, more))
        self.assertEqual(one_form(TASK, more), TABLE)
        self.assertEqual(holds(TASK, more), holds(TASK, TABLE))

    def test_errors(self):
        odd = Table(1, [(1, "r", "a", 1), (1, "never", "c", 1)])
        gone = Table(2, [(1, "r", "a", 2)])
        for value in of_every_kind():
            for call in (needed, one_form, meanings):
                if not isinstance(value, Task):
                    self.fails(BadTask("task"), call, value, value)
                self.fails(BadTable("table"), call, TASK, value)
            if not isinstance(value, Task):
                self.fails(BadTask("task"), same_in, value, value, value)
            self.fails(BadTable("one"), same_in, TASK, value, value)
            self.fails(BadTable("other"), same_in, TASK, TABLE, value)
            self.fails(BadTable("other"), same_in, TASK, odd, value)
        for call in (needed, one_form, meanings):
            self.fails(Unlike("deeds"), call, TASK, odd)
            self.fails(NotKept("serves"), call, TASK, gone)
        for one, other in ((odd, gone), (gone, odd), (odd, odd)):
            self.fails(Unlike("deeds"), same_in, TASK, one, other)
        for one, other in ((TABLE, gone), (gone, TABLE), (gone, FLAT)):
            self.fails(NotKept("serves"), same_in, TASK, one, other)
        self.fails(NotKept("holds"), meanings, TASK, FLAT)
        self.assertTrue(same_in(TASK, FLAT, Table(2, [(1, "r", "a", 2), (2, "r", "a", 2)])) is False)
