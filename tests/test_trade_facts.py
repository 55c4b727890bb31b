"""What the document tells as facts about waits, sure moments and fronts."""

from common import Case, chances, random_task
from table_hands import cells_of, random_table, small_task
from test_among import split_world
from test_facts import coarser
from wait_hands import asks, random_wait, waiting_task

from dimkeeper.blurs import Blur
from dimkeeper.delay_fronts import delay_front
from dimkeeper.delays import delays
from dimkeeper.errors import DimError
from dimkeeper.forced import judge
from dimkeeper.heights import delay
from dimkeeper.merges import coarsest
from dimkeeper.moment_fronts import moment_front
from dimkeeper.moments import moments_of, sure_moments
from dimkeeper.plays import Play
from dimkeeper.promise_fronts import promise_front
from dimkeeper.promises import anything
from dimkeeper.sight_fronts import sight_front
from dimkeeper.tables import Table
from dimkeeper.tasks import Task, choices
from dimkeeper.waits import Wait
from dimkeeper.watches import Watch
from dimkeeper.worlds import World


def renamed(world, names):
    """A world with other names of its states, and its states in another order."""
    rows = [(names[state], world.label_of(state), [[names[after] for after in world.nexts(state, deed)] for deed in world.deeds])
            for state in world]
    return World(world.deeds, rows[::-1], [names[state] for state in world.starts])


def numbers_of(task, wait, most):
    """What does not hang on how the world is told."""
    front, moment = delay_front(task, wait, most), moment_front(task, most)
    sights = sight_front(task, 1)
    return (delays(task, wait, most), front.points, moment.points, moment.kept and moment.kept.pages,
            [[str(blur) for blur, _ in row] for row in (sights.enough, sights.short)])


class TradeFacts(Case):

    def test_how_long_a_table_can_wait(self):
        # A table of k pages answers at last exactly if it does so within m k + 1 moments.
        seen = set()
        for chance in chances(200):
            task = waiting_task(chance, 1, 10 ** 6)
            table, wait = random_table(chance, task, 2, 0), random_wait(chance, task)
            mute = [state for state in task.states if task.world.label_of(state) not in wait.answers]
            bound = len(mute) * table.pages + 1
            paper = delay(task, table, wait)
            if paper:
                self.assertLessEqual(paper.number, bound)
                seen.add("come to" if paper.number == bound else "below")
                continue
            # The ring can be walked so long that a moment is not answered within the bound.
            states = list(paper.play)
            for _ in range(bound):
                states += states[paper.at + 1:len(paper.play)]
            play = Play(task, table, states)
            self.assertTrue(any(asks(task, wait, state) and not set(states[at:at + bound]) & (set(states) - set(mute))
                                and len(states[at:at + bound]) == bound for at, state in enumerate(play.states)))
            seen.add("ring")
        self.assertEqual(seen, {"come to", "below", "ring"})

    def test_the_greatest_delay_is_come_to(self):
        # m states in a row, each of k pages is open once ahead of the answer: m k + 1 moments.
        for many, k in ((1, 1), (1, 3), (2, 2), (3, 4)):
            names = [f"s{at}" for at in range(many)]
            rows = [(state, "e", [[after], ["h"] if state == names[-1] else [after]])
                    for state, after in zip(names, names[1:] + names[:1])]
            world = World(["a", "b"], rows + [("h", "h", [["h"], ["h"]])], ["s0"])
            task = Task(world, Blur({"e": "e", "h": "h"}), anything(["e", "h"], ["a", "b"]))
            # Each round is done by one page; the last page lets the row be left.
            rounds = [(page, "e", "a" if page < k else "b", page) for page in range(1, k + 1)]
            table = Table(k, rounds + [(page, "h", "a", page) for page in range(1, k + 1)])
            if k == 1:
                self.assertEqual(delay(task, table, Wait.again(["h"])).number, many + 1)
                continue
            apart = task.changed(world=World(world.deeds, [(row[0], row[0] if row[0] != "h" else "h", row[2]) for row in rows]
                                             + [("h", "h", [["h"], ["h"]])], ["s0"]),
                                 blur=Blur.apart(names + ["h"]), watch=anything(names + ["h"], ["a", "b"]))
            entries = [(page, name, "b" if page == k else "a", page if name != names[-1] else min(page + 1, k))
                       for page in range(1, k + 1) for name in names]
            table = Table(k, entries + [(page, "h", "a", page) for page in range(1, k + 1)])
            self.assertEqual(delay(apart, table, Wait.again(["h"])).number, many * k + 1)

    def test_more_pages(self):
        for chance in chances(120):
            task = waiting_task(chance, 3, 3000, most_states=3, most_deeds=2, most_labels=2)
            told = [10 ** 9 if number is None else number for number in delays(task, random_wait(chance, task), 3)]
            self.assertEqual(told, sorted(told, reverse=True))
            papers = [sure_moments(task, k) for k in (1, 2, 3)]
            numbers = [10 ** 9 if paper.word == "kept" else paper.number for paper in papers]
            self.assertEqual(numbers, sorted(numbers))

    def test_lost_tasks(self):
        # At most r - 1 moments are sure, and just so many from some number of pages on.
        seen = set()
        for chance in chances(300):
            task = small_task(chance, 2, 3000, most_states=4, most_deeds=2)
            verdict = judge(task)
            if verdict:
                continue
            numbers = [sure_moments(task, k).number for k in (1, 2, 3) if choices(task, k) <= 3000]
            self.assertLessEqual(max(numbers), verdict.number - 1)
            seen.add((verdict.number, numbers[-1] == verdict.number - 1))
        self.assertTrue({(1, True), (2, True), (3, True)} <= seen, seen)

    def test_how_many_moments_a_table_can_keep(self):
        # Fewer than there are triples of a state that comes about, a page and a watch state.
        for chance in chances(200):
            task = random_task(chance)
            table = random_table(chance, task, 3, 0)
            many = moments_of(task, table)
            if many is not None:
                self.assertLess(many, len(task.states) * table.pages * len(task.watch))

    def test_finer_blurs_fewer_starts_and_tamer_worlds(self):
        seen = set()
        for chance in chances(160):
            task = waiting_task(chance, 2, 1300, most_states=3, most_deeds=2, most_labels=2)
            wait = random_wait(chance, task)
            ahead = [10 ** 9 if number is None else number for number in delays(task, wait, 2)]
            sure = [10 ** 9 if paper.word == "kept" else paper.number for paper in [sure_moments(task, k) for k in (1, 2)]]
            coarse = task.changed(blur=coarser(chance, task.blur), standing=task.standing)
            fewer = task.changed(standing=task.standing[:1])
            tame = World(task.world.deeds, [(state, task.world.label_of(state), [task.world.nexts(state, deed)[:1]
                                                                                for deed in task.world.deeds])
                                            for state in task.world], task.world.starts)
            for one, other in ((task, coarse), (fewer, task), (task.changed(world=tame, standing=task.standing), task)):
                fine, rough = [[10 ** 9 if number is None else number for number in delays(each, wait, 2)] for each in (one, other)]
                self.assertTrue(all(less <= more for less, more in zip(fine, rough)))
                seen.add(fine == rough)
                fine, rough = [[10 ** 9 if paper.word == "kept" else paper.number
                                for paper in [sure_moments(each, k) for k in (1, 2)]] for each in (one, other)]
                self.assertTrue(all(more >= less for less, more in zip(rough, fine)))
            self.assertEqual((len(ahead), len(sure)), (2, 2))
        self.assertEqual(seen, {True, False})

    def test_worlds_that_are_alike(self):
        seen = set()
        for chance in chances(140):
            task = waiting_task(chance, 2, 1300, most_states=3, most_deeds=2, most_labels=2).changed()
            wait, world = random_wait(chance, task), task.world
            told = numbers_of(task, wait, 2)
            names = dict(zip(world.states, chance.sample([f"n{at}" for at in range(len(world))], len(world))))
            for other in (renamed(world, names), coarsest(world), split_world(chance, world)):
                if set(other.labels) == set(world.labels):
                    self.assertEqual(numbers_of(task.changed(world=other), wait, 2), told)
                    seen.add(len(other) - len(world))
            labels, deeds = task.watch.labels, task.watch.deeds
            promises = [("a", task.watch), ("b", Watch(labels, deeds, [("k", [["k"] * len(deeds) if at else
                                                                              ["k"] + ["broken"] * (len(deeds) - 1)
                                                                              for at in range(len(labels))])]))]
            fronts = [promise_front(each, promises, 2) for each in (task, task.changed(world=renamed(world, names)))]
            self.assertEqual([[[row for row, _ in part] for part in (front.held, front.short)] for front in fronts][0],
                             [[[row for row, _ in part] for part in (front.held, front.short)] for front in fronts][1])
        self.assertTrue(min(seen) < 0 < max(seen), seen)

    def test_nothing_is_changed(self):
        task = waiting_task(chances(1)[0], 2, 1300, most_states=3, most_deeds=2, most_labels=2)
        wait = Wait(["l0"], ["l1"])
        ahead = (str(task.world), str(task.blur), str(task.watch), task.standing, str(wait))
        told = [delay_front(task, wait, 2), moment_front(task, 2), sight_front(task, 1)]
        self.assertEqual([delay_front(task, wait, 2), moment_front(task, 2), sight_front(task, 1)], told)
        for call in (delay_front, delays):
            self.assertRaises(DimError, call, task, wait, 200)
        self.assertEqual((str(task.world), str(task.blur), str(task.watch), task.standing, str(wait)), ahead)
        self.assertEqual(cells_of(Table(1, [(1, "l0", "d0", 1)])), {(1, "l0"): ("d0", 1)})
