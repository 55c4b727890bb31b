"""What the document tells as facts: about blurs, worlds made of others, watches, tables and numbers of pages."""

import copy

from common import Case, chances, random_task, random_watch, random_world
from table_hands import chosen, random_table, small_task
from test_among import split_world
from test_least import COIN, word_task

from dimkeeper.among import rows_among
from dimkeeper.blurs import Blur, is_finer
from dimkeeper.closed import holds
from dimkeeper.errors import DimError
from dimkeeper.forced import judge
from dimkeeper.handing import handed
from dimkeeper.implied import implied
from dimkeeper.judged import settled
from dimkeeper.keepers import count_kept, kept_tables
from dimkeeper.least import keep, least_pages
from dimkeeper.leastwatch import least_watch
from dimkeeper.made import beside, either, paired
from dimkeeper.merges import coarsest, merged
from dimkeeper.plays import Play
from dimkeeper.promises import both
from dimkeeper.refuse import opened
from dimkeeper.tables import Table
from dimkeeper.tasks import Task, choices
from dimkeeper.trees import Need, leaves_of
from dimkeeper.watches import Watch
from dimkeeper.worlds import World


def kept(task, k):
    return list(kept_tables(task, k))


def coarser(chance, blur):
    """A blur than which this one is finer."""
    sights = list(blur.sights)
    names = {sight: chance.choice(sights) for sight in sights}
    return Blur({label: names[blur.sight_of(label)] for label in blur.labels})


class Facts(Case):

    def test_finer_sights(self):
        seen = set()
        for chance in chances(120):
            task = small_task(chance, 1, 3000, most_states=4)
            coarse = task.changed(blur=coarser(chance, task.blur))
            fine = task.changed()
            self.assertTrue(is_finer(fine.blur, coarse.blur))
            # What holds with the coarse sights holds, carried to the finer ones.
            names = {fine.blur.sight_of(label): coarse.blur.sight_of(label) for label in task.blur.labels}
            for table in kept(coarse, 1)[:5]:
                self.assertTrue(holds(fine, table.carried(names)))
                seen.add("carried")
            ranks = judge(fine), judge(coarse)
            if not ranks[0]:
                self.assertFalse(ranks[1])
                self.assertLessEqual(ranks[1].number, ranks[0].number)
                seen.add("lost")
        self.assertEqual(len(seen), 2)

    def test_states_that_do_not_come_about(self):
        for chance in chances(80):
            task = small_task(chance, 1, 3000, most_states=5).changed()
            cut = task.changed(world=task.world.cut())
            self.assertEqual(kept(cut, 1), kept(task, 1))
            self.assertEqual(keep(cut, 1), keep(task, 1))

    def test_settled_and_least_watches(self):
        seen = set()
        for chance in chances(150):
            task = small_task(chance, 1, 3000, most_states=4).changed()
            tables = kept(task, 1)
            for watch in (settled(task.watch), least_watch(task.watch)):
                self.assertEqual(kept(task.changed(watch=watch), 1), tables)
            seen.add((bool(tables), len(settled(task.watch)) < len(task.watch)))
        self.assertEqual(len(seen), 4)

    def test_stronger_promises(self):
        seen = set()
        for chance in chances(250):
            task = small_task(chance, 1, 3000, most_states=4).changed()
            other = random_watch(chance, task.watch.labels, task.watch.deeds, 3, 0.3)
            strong = both(task.watch, other)
            self.assertTrue(implied(strong, other))
            tables, more = kept(task.changed(watch=strong), 1), kept(task.changed(watch=other), 1)
            self.assertTrue(all(table in more for table in tables))
            if implied(task.watch, other):
                self.assertTrue(all(table in more for table in kept(task, 1)))
                seen.add("implied")
            seen.add((len(tables) > 0, len(more) > len(tables)))
        self.assertTrue({"implied", (True, True), (False, True)} <= seen, seen)

    def test_either_of_two_worlds(self):
        seen = set()
        for chance in chances(200):
            one = random_world(chance, 3, 2, 2)
            other = split_world(chance, one) if chance.random() < 0.3 else random_world(chance, 3, 2, 2)
            if one.deeds != other.deeds:
                continue
            labels = sorted({*one.labels, *other.labels})
            blur = Blur({label: chance.choice("xy") for label in labels})
            watch = random_watch(chance, labels, one.deeds, 3, 0.2)
            tasks = [Task(world, blur, watch) for world in (one, other, either(one, other))]
            if max(choices(task, 2) for task in tasks) > 5000:
                continue
            forms = [kept(task, 2) for task in tasks]
            for table in forms[2]:
                self.assertTrue(holds(tasks[0], table) and holds(tasks[1], table))
            for table in forms[0]:
                if holds(tasks[1], table):
                    self.assertTrue(holds(tasks[2], table))
                    self.assertTrue(forms[2])
            papers = [judge(task) for task in tasks]
            if not papers[0] or not papers[1]:
                self.assertFalse(papers[2])
            seen.add((bool(forms[0]), bool(forms[1]), bool(forms[2])))
        self.assertTrue({(True, True, True), (True, False, False), (False, True, False)} <= seen, seen)

    def test_side_by_side(self):
        # A page for each pair of pages holds both promises; fewer can do, as two words of one length show.
        for one, other, least in (("ab", "ab", 2), ("a", "ab", 2), ("aab", "ab", None), ("aaab", "aab", None)):
            first, second = word_task(one), word_task(other)
            made = beside(COIN, COIN)
            watch = both(first.watch.carried(made[0].labels, made[0].deeds), second.watch.carried(made[1].labels, made[1].deeds))
            task = Task(made[0].world, paired(first.blur, second.blur), watch)
            mine, theirs = least_pages(first).kept, least_pages(second).kept
            pages = {(p, q): 1 + (p - 1) * theirs.pages + q - 1 for p in range(1, mine.pages + 1)
                     for q in range(1, theirs.pages + 1)}
            table = Table(mine.pages * theirs.pages, [
                (pages[p, q], f"{s}.{t}", f"{d}.{e}", pages[after, behind])
                for p, s, d, after in mine.entries for q, t, e, behind in theirs.entries])
            self.assertTrue(holds(task, table))
            if least:
                self.assertEqual(least_pages(task).number, least)

    def test_a_clock_beside(self):
        # A second world that ticks, and whose face is seen, spares the pages of the first.
        turns = word_task("ab")
        clock = World.read("tick ; i one j two ; i ; j / i")
        made = beside(COIN, clock)
        watch = turns.watch.carried(made[0].labels, made[0].deeds)
        seen = Task(made[0].world, paired(turns.blur, Blur.apart(clock.labels)), watch)
        dark = seen.changed(blur=paired(turns.blur, Blur.alike(clock.labels)))
        self.assertEqual((least_pages(turns).number, least_pages(seen).number, least_pages(dark).number), (2, 1, 2))

    def test_more_pages(self):
        for chance in chances(60):
            task = small_task(chance, 2, 3000, most_states=3, most_deeds=2, most_labels=2)
            tables = kept(task, 2)
            self.assertEqual([table for table in tables if table.pages == 1], kept(task, 1))
            if keep(task, 1):
                self.assertTrue(keep(task, 2))

    def test_lost_tasks_are_refused_for_each_number_of_pages(self):
        many = 0
        for chance in chances(120):
            task = random_task(chance, most_states=4, most_deeds=2)
            paper = judge(task)
            if paper:
                continue
            for k in (1, 2, 3):
                if choices(task, k) <= 3000:
                    told = keep(task, k)
                    self.assertEqual((told.word, count_kept(task, k), opened(task, k)[2]), ("refusal", 0, 0))
                    many += 1
            self.assertEqual(least_pages(task), paper)
            # One keeper is sure of all moments but the last one, so some leaf is as long as the number.
            tree = keep(task, 1).tree
            self.assertGreaterEqual(max(len(leaf.states) for _, leaf in leaves_of(tree, task.world.deeds)), 1)
        self.assertGreater(many, 60)

    def test_alike_worlds_have_the_same_numbers(self):
        many = 0
        for chance in chances(80):
            world = random_world(chance, 3, 2, 2)
            other = split_world(chance, world)
            labels = sorted(world.labels)
            blur = Blur({label: chance.choice("xy") for label in labels})
            watch = random_watch(chance, labels, world.deeds, 3, 0.2)
            one, two, three = (Task(told, blur, watch) for told in (world, other, coarsest(other)))
            if not rows_among(world, other) or not rows_among(other, world) or choices(one, 2) > 3000:
                continue
            self.assertEqual([judge(task).word for task in (two, three)], [judge(one).word] * 2)
            # The list may stand in another order, for cells are needed in the order of the states.
            for task in (two, three):
                self.assertEqual(count_kept(task, 2), count_kept(one, 2))
                self.assertEqual(keep(task, 1).word, keep(one, 1).word)
            many += 1
        self.assertGreater(many, 20)

    def test_what_holds_in_a_merged_world_holds(self):
        seen = 0
        for chance in chances(100):
            world = random_world(chance, 4, 2, 2)
            groups = {}
            for state in world:
                groups.setdefault(world.label_of(state), []).append(state)
            labels = sorted(world.labels)
            blur, watch = Blur.apart(labels), random_watch(chance, labels, world.deeds, 2, 0.2)
            wide = Task(merged(world, list(groups.values())), blur, watch)
            if choices(wide, 1) > 1000:
                continue
            for table in kept(wide, 1):
                self.assertTrue(holds(Task(world, blur, watch), table))
                seen += 1
        self.assertGreater(seen, 30)

    def test_calls_that_raise_change_nothing(self):
        task = word_task("ab")
        table = Table(2, [(1, "dark", "a", 2)])
        for call, told in [(Play, [task, table, ["o", "o", "o"]]), (handed, [task, [table], [[0, 1, 0, 3]]]),
                           (merged, [COIN, [["o"], ["o"]]]), (Need, [1, "s", [[], []]]), (kept_tables, [task, 0])]:
            before = copy.deepcopy(told[1:])
            try:
                list(call(*told)) if call is kept_tables else call(*told)
                self.fail(call)
            except DimError:
                pass
            self.assertEqual(told[1:], before)
        self.assertIsInstance(task.watch, Watch)
