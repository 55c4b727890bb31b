"""The whole program: its interface, its papers, its texts, and that all modules tell the same of one task."""

import ast
import copy
import importlib
import os

from common import Case, chances, of_every_kind, random_task, random_watch, random_world
from smudge_hands import random_smudges
from table_hands import random_table, small_task
from test_trees import random_tree
from wait_hands import random_wait, waiting_task

from dimkeeper import errors
from dimkeeper.blurs import Blur
from dimkeeper.closed import holds
from dimkeeper.covers import cover_by
from dimkeeper.delay_fronts import delay_front
from dimkeeper.delays import delays, least_delay
from dimkeeper.desk import Desk
from dimkeeper.forced import judge, rank_of
from dimkeeper.forms import meanings, one_form
from dimkeeper.halls import Hall, replayed
from dimkeeper.heights import delay
from dimkeeper.keepers import count_kept, first_kept, kept_at, kept_tables, number_of
from dimkeeper.least import keep, least_pages
from dimkeeper.losing import beaten, losing
from dimkeeper.moment_fronts import moment_front
from dimkeeper.moments import moments_of, sure_moments
from dimkeeper.papers import Denial, Paper
from dimkeeper.promise_fronts import promise_front
from dimkeeper.refuse import opened, refusal
from dimkeeper.sight_fronts import is_enough, sight_front
from dimkeeper.smudge_search import keep_smudged, least_smudged
from dimkeeper.smudges import Smudges, holds_smudged
from dimkeeper.stories import Story
from dimkeeper.tables import Table
from dimkeeper.tasks import Task, choices
from dimkeeper.trees import Tree
from dimkeeper.views import beginnings
from dimkeeper.waits import Wait
from dimkeeper.watches import Watch
from dimkeeper.worlds import World

# What the interface lists: functions, and classes with their methods.
INTERFACE = {
    "checks": "is_integer is_within is_stem is_name joined_name", "papers": "fixed Paper:__eq__ Denial",
    "worlds": "World:label_of,nexts,begun,cut,__len__,__iter__,__contains__,__eq__,__str__,read",
    "blurs": "Blur:sight_of,labels_of,apart,alike,__len__,__iter__,__contains__,__eq__,__str__,read is_finer blurs_of",
    "rows": "states_after gives way_of rows_of count_rows", "made": "Made:__eq__ either beside paired",
    "watches": "Watch:place_of,after,broken_at,reached,begun,carried,is_hopeless,__len__,__iter__,__contains__,__eq__,__str__,read",
    "promises": "anything never never_done again in_turn done_in_turn answered both freed_by",
    "judged": "Safe Unsafe doomed settled safe shows_safe", "implied": "Implied Apart implied shows_implied apart_world",
    "leastwatch": "least_watch", "tasks": "Task:stands,sight_of,place_of,changed,__eq__ choices",
    "views": "splits_of beginnings fault_of next_view views_met view_after", "forced": "Held Lost judge rank_of",
    "covers": "Uncovered cover_by widest", "check_views": "shows_held shows_lost", "foes": "Foe:do,way,twin",
    "tables": "Table:entry_of,__contains__,__len__,__iter__,__eq__,turned,carried,blind,__str__,read", "plays": "Play:__eq__ plays",
    "closed": "Serves Holds Lacks Broken serves holds", "forms": "needed one_form same_in meanings", "handing": "Handed Dropped handed",
    "check_closed": "shows_serves shows_holds shows_handed", "keepers": "Kept kept_tables count_kept kept_at number_of first_kept",
    "check_kept": "shows_kept", "trees": "Tree:read Leaf:__len__,__eq__,__str__ Need:__len__,__eq__,__str__ leaves_of",
    "refuse": "Refusal refusal opened", "check_trees": "shows_refusal tree_fault", "cut": "cut fewer", "losing": "Losing beaten losing",
    "least": "Least keep least_pages", "check_least": "shows_least", "among": "Shared Parting rows_among worlds_alike",
    "classes": "is_alike parted classes", "merges": "merged merged_pair coarsest", "partings": "parting_promise parting_table turned",
    "check_among": "shows_among", "waits": "Wait:again,is_asked,is_answer,__eq__,__str__,read", "heights": "Delay Ring delay",
    "delays": "Patience Never least_delay delays", "moments": "SureTime moments_of sure_moments",
    "check_patience": "shows_delay shows_patience shows_time", "delay_fronts": "DelayFront delay_front",
    "moment_fronts": "MomentFront moment_front", "sight_fronts": "is_enough SightFront sight_front",
    "promise_fronts": "joint PromiseFront promise_front",
    "check_fronts": "shows_delay_front shows_moment_front shows_sight_front shows_promise_front", "carry": "made_task",
    "late": "late in_time", "shifts": "shifts own_table shared_table", "smudges": "Smudges:__eq__,__str__,read Stays Slips holds_smudged",
    "smudge_search": "Firm Unfirm Steady keep_smudged least_smudged", "check_smudged": "shows_stays shows_firm",
    "stories": "Story:__len__,__eq__,__str__,read ways_of count_ways may_be",
    "halls": "Hall:story,fate,__eq__,see,do,undo,rank,safe_deeds,least,told,followed replayed",
    "desk": "Desk:tell,run,back,told_lines,kept_names,value_of,hall_now,__eq__",
}

# The classes of papers with their parameters; those of denials begin with a dash.
PAPERS = {
    "judged": ["Safe stands", "-Unsafe states deeds"], "implied": ["Implied pairs", "-Apart reading ring"],
    "forced": ["Held pages entries", "-Lost number ranked kept"], "covers": ["-Uncovered page sight"],
    "closed": ["Serves spots", "Holds triples", "-Lacks page sight states", "-Broken first states"],
    "handing": ["Handed closed", "-Dropped first states places"], "keepers": ["Kept pages entries triples"], "refuse": ["-Refusal pages tree"],
    "losing": ["Losing first states pages deeds places"], "least": ["Least number kept refusal"],
    "among": ["Shared pairs", "-Parting row way sets"], "heights": ["Delay number heights play", "-Ring play at"],
    "delays": ["Patience number table delay tree", "-Never tree"], "moments": ["SureTime number table tree"],
    "delay_fronts": ["DelayFront points never steps"], "moment_fronts": ["MomentFront points steps kept"],
    "sight_fronts": ["SightFront enough short"], "promise_fronts": ["PromiseFront held short"],
    "smudges": ["Stays cases", "-Slips first states pages"],
    "smudge_search": ["Firm pages entries cases", "-Unfirm pages lines", "Steady number firm unfirm"],
}


def all_papers():
    """Each class of papers, with its parameters, and whether it is one of denials."""
    for module, rows in PAPERS.items():
        for row in rows:
            name, *fields = row.strip("-").split()
            yield getattr(importlib.import_module("dimkeeper." + module), name), fields, row[0] == "-"


class Whole(Case):

    def test_interface(self):
        folder = os.path.join(os.path.dirname(os.path.dirname(os.path.abspath(__file__))), "dimkeeper")
        for module, names in INTERFACE.items():
            with open(os.path.join(folder, module + ".py"), encoding="utf-8") as file:
                tree = ast.parse(file.read())
            here = {node.name: node for node in tree.body if isinstance(node, (ast.FunctionDef, ast.ClassDef))}
            for name in names.split():
                name, _, methods = name.partition(":")
                self.assertIn(name, here, module)
                inside = [node.name for node in getattr(here[name], "body", []) if isinstance(node, ast.FunctionDef)]
                for method in methods.split(",") if methods else []:
                    self.assertIn(method, inside, (module, name))

    def test_papers(self):
        made = []
        for kind, fields, is_denial in all_papers():
            told = [[at, ["a", {"b": [at]}]] for at in range(len(fields))]
            fixed = tuple((at, ("a", (("b", (at,)),))) for at in range(len(fields)))
            paper = kind(*told)
            self.assertEqual((paper.word, paper.parts), (kind.__name__.lower(), fixed))
            self.assertEqual(kind(**dict(list(zip(fields, told))[::-1])), paper)
            self.assertEqual(tuple(getattr(paper, field) for field in fields), fixed)
            self.assertEqual((isinstance(paper, Denial), bool(paper), isinstance(paper, Paper)), (is_denial, not is_denial, True))
            for at in range(len(fields)):
                other = kind(*[part if one != at else None for one, part in enumerate(told)])
                self.assertFalse(paper == other)
                self.assertTrue(paper != other)
            base = Denial if is_denial else Paper
            self.assertNotEqual(paper, base(paper.word, *paper.parts))
            told[0][1].append("more")
            self.assertEqual(paper.parts, fixed)
            made.append(paper)
        self.same(made)
        self.assertEqual(len(made), 33)

    def test_texts(self):
        for chance in chances(8):
            task = random_task(chance, most_states=3)
            steps = [("see" if at % 2 == 0 else "do", chance.choice(["a", "b.c"])) for at in range(chance.randint(0, 3))]
            for kind, value in [(World, task.world), (Blur, task.blur), (Watch, task.watch), (Table, random_table(chance, task, 2)),
                                (Wait, random_wait(chance, task)), (Smudges, random_smudges(chance, task)), (Story, Story(steps)),
                                (Tree, random_tree(chance, 2))]:
                self.reads(kind, value)
                text = str(value)
                if len(text) < 120:
                    self.bends(kind, text)
                for odd in of_every_kind():
                    if not isinstance(odd, str):
                        self.fails(errors.BadText(0, 0), kind.read, odd)

    def test_integers_in_texts(self):
        desk = Desk(["set k table 1 : 1 r a 1"])
        for word in ("0000000001", "1234567890", "9" * 10, "1" * 5000, "9" * 90000, "01", "-1", "+1", "1.0", "0x1", "1_0", "one", "201", "", "None"):
            self.fails(errors.BadText(0, 0), Table.read, word + " : 1 r a 1")
            self.fails(errors.BadText(0, 2), Table.read, f"3 : {word} r a 1")
            self.fails(errors.BadText(0, 5), Table.read, f"3 : 1 r a {word}")
            self.fails(errors.BadText(0, 1), Tree.read, f"ask {word} r ( play w o )")
            self.fails(errors.BadText(0, 0), Smudges.read, f"{word} at l")
            self.fails(errors.BadText(0, 2), desk.tell, f"follow k {word}")
            self.fails(errors.BadText(0, 3), desk.tell, f"set t table {word} : 1 r a 1")

    def test_one_task(self):
        seen = set()
        for chance in chances(160):
            task = waiting_task(chance, 2, 1300, most_states=3, most_deeds=2, most_labels=2)
            if choices(task, 3) > 3000:
                continue
            wait = random_wait(chance, task)
            verdict, least = judge(task), least_pages(task)
            tables = [list(kept_tables(task, k)) for k in (1, 2, 3)]
            number = next((k for k in (1, 2, 3) if tables[k - 1]), None)
            self.assertEqual(bool(verdict), bool(least))
            self.assertEqual(verdict.word == "lost", any(rank_of(task, view) is not None for _, view in beginnings(task)))
            if verdict:
                self.assertLessEqual(least.number, len(verdict.pages))
                self.assertTrue(holds(task, Table(len(verdict.pages), verdict.entries)))
                self.assertEqual(cover_by(task, verdict.pages).pages, verdict.pages)
                if number is not None:
                    self.assertEqual(least.number, number)
            else:
                self.assertEqual((number, verdict), (None, least))
            for k, rows in enumerate(tables, 1):
                self.check_pages(task, wait, k, rows)
                seen.add((k, len(rows) > 0))
            self.check_fronts(task, wait, number)
            self.assertEqual(Hall(task).rank(), None if verdict else verdict.number)
            if verdict or task.standing:
                self.assertEqual(Hall(task).least(), least)
            if number is not None and number < 3:
                self.check_hall(chance, task, tables[number - 1][0])
        self.assertEqual(seen, {(k, fine) for k in (1, 2, 3) for fine in (True, False)})

    def check_pages(self, task, wait, k, rows):
        """What is told of one number of pages."""
        self.assertEqual((count_kept(task, k), opened(task, k)[2]), (len(rows), len(rows)))
        self.assertEqual(refusal(task, k) is None, bool(rows))
        self.assertEqual(keep(task, k), first_kept(task, k) if rows else refusal(task, k))
        self.assertEqual(bool(keep_smudged(task, k, Smudges(0))) if k < 3 else bool(rows), bool(rows))
        self.assertIs(is_enough(task, k, Blur({label: task.blur.sight_of(label) for label in task.world.labels})), bool(rows))
        paper, sure = least_delay(task, wait, k), sure_moments(task, k)
        self.assertEqual(sure.word == "kept", bool(rows))
        told = [delay(task, table, wait) for table in rows]
        self.assertEqual([one.number for one in told if one] != [], bool(paper))
        if paper:
            self.assertEqual(paper.number, min(one.number for one in told if one))
            self.assertEqual(paper.delay, delay(task, Table(max(row[3] for row in paper.table + ((1, "", "", 1),)), paper.table), wait))
        for at, table in list(enumerate(rows))[:3]:
            self.assertEqual((kept_at(task, k, at), number_of(task, k, table), one_form(task, table)), (table, at, table))
            self.assertIsNone(losing(task, table))
            self.assertIsNone(moments_of(task, table))
            views = [view for _, view in meanings(task, table)]
            self.assertTrue(cover_by(task, views))
            self.assertTrue(holds_smudged(task, table, Smudges(0)))
        if not rows and sure.number:
            table = Table(k, sure.table)
            self.assertEqual(moments_of(task, table), sure.number)
            self.assertFalse(beaten(task, refusal(task, k), table))

    def check_fronts(self, task, wait, number):
        """What the fronts tell is what is told for each number of pages."""
        front, told = delay_front(task, wait, 3), delays(task, wait, 3)
        for k in (1, 2, 3):
            ahead = [least for pages, least in front.points if pages <= k]
            self.assertEqual(ahead[-1] if ahead else None, told[k - 1])
        front = moment_front(task, 3)
        self.assertEqual(front.kept.pages if front.kept else None, number)
        for k in range(1, number or 4):
            self.assertEqual([many for pages, many in front.points if pages <= k][-1], sure_moments(task, k).number)
        sights = sight_front(task, 1)
        for row, fine in ((sights.enough, True), (sights.short, False)):
            for blur, paper in row:
                self.assertEqual((is_enough(task, 1, blur), bool(paper)), (fine, fine))
        stands = [(state, task.watch.first) for state in dict(task.standing)]
        alone = task.changed(standing=stands)
        front = promise_front(task, [("one", task.watch)], 2)
        self.assertEqual((front.held, front.short), ((((("one",), keep(alone, 2)),), ()) if keep(alone, 2) else
                                                    ((), ((("one",), keep(alone, 2)),))))

    def check_hall(self, chance, task, table):
        """A table that holds is followed: nothing breaks, whatever the world does."""
        hall, page = Hall(task), 1
        state = chance.choice(task.standing)[0]
        for _ in range(6):
            hall.see(task.sight_of(state))
            deed, after = hall.told(table, page)
            self.assertEqual((hall.fate, hall.rank()), ("kept", None))
            self.assertIn(deed, hall.safe_deeds())
            page = hall.followed(table, page)
            self.assertEqual(page, after)
            state = chance.choice(task.world.nexts(state, deed))
        self.assertEqual(replayed(task, hall.story), hall)

    def test_a_desk_tells_the_same(self):
        for chance in chances(40):
            task = small_task(chance, 2, 1300, most_states=3, most_deeds=2, most_labels=2).changed()
            desk = Desk([f"set w world {task.world}", f"set b blur {task.blur}", f"set p watch {task.watch}", "task t w b p", "hall t"])
            self.assertEqual((desk.value_of("t"), desk.hall_now()), (task, Hall(task)))
            lost = judge(task)
            self.assertEqual(desk.tell("rank"), "held" if lost else f"lost {lost.number}")

    def test_nothing_is_shared(self):
        # What a caller does to what was passed or returned changes no value.
        for chance in chances(30):
            world = random_world(chance)
            labels, deeds = sorted(world.labels), list(world.deeds)
            watch = random_watch(chance, labels, deeds)
            rows = [[state, world.label_of(state), [list(world.nexts(state, deed)) for deed in deeds]] for state in world]
            starts, told = list(world.starts), copy.deepcopy(rows)
            made = World(deeds, rows, starts)
            rows[0][2][0].append("odd")
            rows.pop()
            starts.clear()
            self.assertEqual(made, World(deeds, told, world.starts))
            shown = {label: "o" for label in labels}
            blur = Blur(shown)
            stands = [[start, watch.first] for start in world.starts]
            task = Task(made, blur, watch, stands)
            shown.clear()
            stands[0][0] = "odd"
            deeds.append("odd")
            self.assertEqual(task, Task(world, Blur({label: "o" for label in labels}), watch))
            answers = ["h"]
            wait = Wait(None, answers)
            answers.append("x")
            self.assertEqual(wait, Wait.again(("h",)))

    def test_calls_that_raise_change_nothing(self):
        for chance in chances(20):
            task = small_task(chance, 2, 600, most_states=3, most_deeds=2, most_labels=2)
            ahead = str(task.world), str(task.blur), str(task.watch), task.standing
            least = least_smudged(task, Smudges(1), 1)
            for call in (lambda: least_delay(task, Wait.again(["h"]), 200), lambda: sure_moments(task, 200), lambda: moment_front(task, 200),
                         lambda: delay_front(task, Wait.again(["h"]), 200), lambda: sight_front(task, 200),
                         lambda: promise_front(task, [("a", task.watch)], 200), lambda: keep_smudged(task, 200, Smudges(1))):
                try:
                    call()
                except errors.TooMany:
                    pass
            self.assertEqual((str(task.world), str(task.blur), str(task.watch), task.standing), ahead)
            self.assertEqual(least_smudged(task, Smudges(1), 1), least)
